/- The walks of urlenc's Escape, at and Unescape. -/
import Derived.Test.YtcjnhgcopdofhaaDoorUrMean
namespace Go.Proofs.YtcjnhgcopdofhaaDoor
open Go Go.RowKit

theorem take_snoc_str (s : ByteArray) (k : Nat) (h : k < s.size) : (strL s).take (k + 1) = (strL s).take k ++ [(s[k].toNat : Int)] := by
  have hl : k < (strL s).length := by rw [length_strL]; exact h
  rw [List.take_succ_eq_append_getElem hl]
  congr 2
  have := strL_get s k h
  rw [List.getD_eq_getElem?_getD, List.getElem?_eq_getElem hl] at this
  exact this
set_option maxRecDepth 100000 in
set_option maxHeartbeats 2000000 in
theorem escape_any (s : ByteArray) (w : World) (hs : s.size ≤ 1000000000) :
    Calls Tryd.prog 20 #[.string s] w fun e w' => e = .returned (.string (toS (escL (strL s)))) ∧ Below w.heap.size w w' := by
  have HLEN := Lib.hid (length_strL s)
  have HBY := Lib.hid (escL_bytes (strL_bd s))
  have HN := Lib.hid (bld_new w)
  have HB0 := Lib.hid (belowAlloc w (.cells #[.pointer none, .slice none 0 0] 66))
  go_enter Tryd.func20, Tryd.ntmps20
  go_wp2
  go_loopw [7] (fun v wr => ∃ k : Nat, k ≤ s.size ∧ v = .int .i64 (k : Int) ∧ IsBld w.heap.size w.heap.size (ints .u8 (escL ((strL s).take k))) wr ∧ Below w.heap.size w wr) (fun v _ => s.size - (intOf v).toNat)
  case atStart => exact ⟨0, Nat.zero_le _, rfl, HN.out, HB0.out⟩
  case round =>
    obtain ⟨k, hk, rfl, hbld, hbel⟩ := hrel
    have HBE := Lib.hid hbel
    have HSZ := Lib.hid hbel.size
    by_cases hlt : k < s.size
    · have hi0 : (0 : Int) ≤ (k : Int) := by omega
      have hb := UInt8.toNat_lt s[k]
      have HSP := Lib.hid (fun W : World => uSpell_any (s[k].toNat : Int) W (by omega) (by omega))
      have hbb := spellB_bytes (c := (s[k].toNat : Int)) (by omega)
      have hll := spellB_len (s[k].toNat : Int)
      have HST : Hid (escL ((strL s).take (k + 1)) = escL ((strL s).take k) ++ spellB (s[k].toNat : Int)) := Lib.hid (by rw [take_snoc_str s k hlt, escL_append, escL_one])
      have hel : (escL ((strL s).take k)).length ≤ 3000000000 := by
        have := escL_len ((strL s).take k)
        have := List.length_take_le k (strL s)
        omega
      obtain ⟨L, hL⟩ : ∃ L, L = spellB (s[k].toNat : Int) := ⟨_, rfl⟩
      rw [← hL] at HSP hbb hll HST
      have HWR := Lib.hid (fun (W : World) (hW : Below wr.heap.size wr W) => writeS_any w.heap.size w.heap.size (ints .u8 (escL ((strL s).take k))) (toS L) W (hbld.below hW) (by rw [length_ints, size_toS]; omega) (Nat.le_trans HSZ.out hW.size))
      have HCE : Hid (Lib.strCells (toS L) = ints .u8 L) := Lib.hid (by rw [strCells_strL, strL_toS hbb])
      clear hL hbb hll hel hbld hbel hb
      go_wp2_with (first
        | (go_at_call 34; (with_reducible refine (HSP.out _).mono ?_); rintro e w1 ⟨rfl, hb1⟩; have HB1 := Lib.hid hb1; clear hb1)
        | (go_at_call 33; (with_reducible refine (HWR.out _ HB1.out).mono ?_); rintro e w2 ⟨rfl, hb1, hb2⟩; have HF := Lib.hid (And.intro hb1 hb2); clear hb1 hb2))
      go_roundw
      case rel => exact ⟨k + 1, by omega, by go_num, by rw [HST.out, ints_append, ← HCE.out]; exact HF.out.1, (HBE.out.trans (HB1.out.mono HSZ.out)).trans HF.out.2⟩
      case measure => simp [intOf]; omega
    · obtain rfl : k = s.size := by omega
      have HBB : Hid (IsBld w.heap.size w.heap.size (ints .u8 (escL (strL s))) wr ∧ w.heap.size ≤ wr.heap.size) := Lib.hid ⟨by
        have h := hbld
        rwa [List.take_of_length_le (by rw [HLEN.out]; exact Nat.le_refl _)] at h, hbel.size⟩
      clear hlt hbld hbel
      go_wp2_with (go_at_call 35; (with_reducible refine (bldString _ _ _ _ HBY.out HBB.out.1 HBB.out.2).mono ?_); rintro e w1 ⟨rfl, hb1⟩; have HF := Lib.hid hb1; clear hb1)
      go_ret
      exact ⟨rfl, HBE.out.trans HF.out⟩
/-- The block of an At of the number n at pos. -/
def AtU (pos n : Int) : Array Value := #[.int .i64 pos, .iface 46 (.int .i64 n)]
theorem uAt_any (pos n : Int) (w : World) :
    Calls Tryd.prog 30 #[.int .i64 pos, .iface 46 (.int .i64 n)] w fun e w' => e = .returned (.iface 55 (.pointer (some ⟨w.heap.size, 0, none⟩))) ∧ w' = w.alloc (.cells (AtU pos n) 58) := by
  go_enter Tryd.func30, Tryd.ntmps30
  go_wp2
  go_ret
  exact ⟨rfl, rfl⟩
/-- What an At in memory tells. -/
def UAtTells (pos n : Int) (w : World) (v : Value) (w' : World) : Prop :=
  ∃ b, v = .iface 55 (.pointer (some ⟨b, 0, none⟩)) ∧ w'.cell? ⟨b, 0, none⟩ = some (.int .i64 pos) ∧ w'.cell? ⟨b, 0 + 1, none⟩ = some (.iface 46 (.int .i64 n)) ∧ w.heap.size ≤ b
theorem uAt_tells (pos n : Int) (w : World) :
    Calls Tryd.prog 30 #[.int .i64 pos, .iface 46 (.int .i64 n)] w fun e w' => ∃ v, e = .returned v ∧ UAtTells pos n w v w' ∧ Below w.heap.size w w' :=
  (uAt_any pos n w).mono fun e w' ⟨he, hw⟩ => ⟨_, he, ⟨w.heap.size, rfl, by rw [hw]; simp [AtU], by rw [hw]; simp [AtU], Nat.le_refl _⟩, by rw [hw]; exact belowAlloc _ _⟩
set_option maxRecDepth 100000 in
set_option maxHeartbeats 1000000 in
theorem unescape_right (s : ByteArray) (w : World) (hs : s.size ≤ 1000000000) (hl : looseL (strL s) = (strL s).length) :
    Calls Tryd.prog 18 #[.string s] w fun e w' => e = .returned (.tuple #[.string (toS (meanL (strL s))), .nilIface]) ∧ Below w.heap.size w w' := by
  have HLO := Lib.hid (fun W : World => loose_any s W hs)
  rw [hl, length_strL] at HLO
  have HME := Lib.hid (fun W : World => meaning_any s W hs hl)
  have hf : ¬ (s.size : Int) < (s.size : Int) := by omega
  clear hl
  go_enter Tryd.func18, Tryd.ntmps18
  go_wp2_with (first
    | (go_at_call 29; (with_reducible refine (HLO.out _).mono ?_); rintro e w1 ⟨rfl, rfl⟩)
    | (go_at_call 31; (with_reducible refine (HME.out _).mono ?_); rintro e w2 ⟨rfl, hb⟩; have HB := Lib.hid hb; clear hb))
  go_ret2
  exact ⟨rfl, HB.out⟩
set_option maxRecDepth 100000 in
set_option maxHeartbeats 1000000 in
theorem unescape_wrong (s : ByteArray) (w : World) (hs : s.size ≤ 1000000000) (hl : looseL (strL s) < (strL s).length) :
    Calls Tryd.prog 18 #[.string s] w fun e w' => ∃ v, e = .returned (.tuple #[.string ⟨#[]⟩, v]) ∧ UAtTells (looseL (strL s) : Int) 60 w v w' ∧ Below w.heap.size w w' := by
  have HLO := Lib.hid (fun W : World => loose_any s W hs)
  rw [length_strL] at hl
  have hf : (looseL (strL s) : Int) < (s.size : Int) := by omega
  obtain ⟨p, hp⟩ : ∃ p, p = looseL (strL s) := ⟨_, rfl⟩
  rw [← hp] at HLO hf ⊢
  clear hl hp
  go_enter Tryd.func18, Tryd.ntmps18
  go_wp2_with (first
    | (go_at_call 29; (with_reducible refine (HLO.out _).mono ?_); rintro e w1 ⟨rfl, rfl⟩)
    | (go_at_call 30; (with_reducible refine (uAt_tells _ _ _).mono ?_); rintro e w2 ⟨v, rfl, hv, hb⟩; have HV := Lib.hid (And.intro hv hb); clear hv hb))
  go_ret2
  exact ⟨v, rfl, HV.out.1, HV.out.2⟩
end Go.Proofs.YtcjnhgcopdofhaaDoor
