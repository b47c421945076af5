/- The reference's Print. -/
import Derived.Test.YtapalkipdmdceaaDoorScRef
import Derived.Test.YtapalkipdmdceaaDoorScWords
namespace Go.Proofs.YtapalkipdmdceaaDoor
open Go Go.RowKit

set_option maxRecDepth 100000 in
set_option maxHeartbeats 4000000 in
theorem refPrint_any (v : Value) (ns : List ByteArray) (w : World) (h : SliceN w v ns) (hn : ns.length ≤ 1000000) (ht : (textG true ns).length ≤ 1000000000) :
    Calls Tryd.prog 16 #[v] w fun e w' => e = .returned (.string (toS (textG true ns))) ∧ Below w.heap.size w w' := by
  obtain ⟨A, c, rfl, hc, hl, hok⟩ := h
  obtain ⟨n, hnn⟩ : ∃ n, n = ns.length := ⟨_, rfl⟩
  rw [← hnn] at hc hn ⊢
  have HN := Lib.hid hnn
  have HL := Lib.hid hl
  have HT := Lib.hid ht
  obtain ⟨T, hT⟩ : ∃ T, T = toS (textG true ns) := ⟨_, rfl⟩
  rw [← hT]
  have HTT := Lib.hid hT
  clear hnn hl hok ht hT
  go_enter Tryd.func16, Tryd.ntmps16
  go_wp2
  go_loopw [3, 4] (fun sv i wr => ∃ (k : Nat) (t : ByteArray), k ≤ n ∧ i = .int .i64 (k : Int) ∧ sv = .string t ∧ t = toS (textG true (ns.take k)) ∧ Below w.heap.size w wr) (fun _ i _ => n - (intOf i).toNat)
  case atStart => exact ⟨0, ⟨#[]⟩, Nat.zero_le _, rfl, rfl, by rw [List.take_zero]; rfl, Below.refl _ _⟩
  case round =>
    obtain ⟨k, t, hk, rfl, rfl, htt, hbel⟩ := hrel
    have HBE := Lib.hid hbel
    have HTX := Lib.hid htt
    have hts : t.size ≤ 1000000000 := by
      rw [htt, size_toS]; exact Nat.le_trans (textG_take_len ns k) HT.out
    clear hbel htt
    by_cases hlt : k < n
    · have hkl : k < ns.length := by rw [← HN.out]; exact hlt
      obtain ⟨b, o, rfl, hbl, hcell0⟩ := HL.out.at hkl
      have hcell := (HBE.out.cell (p := ⟨b, o + k, none⟩) hbl).trans hcell0
      have hi0 : (0 : Int) ≤ (k : Int) := by omega
      have HST := Lib.hid (textG_snoc hkl)
      have hxs : ns[k].size ≤ 1000000000 := by
        have h1 := textG_take_len ns (k + 1)
        rw [HST.out, List.length_append, length_strL] at h1
        have := HT.out
        omega
      obtain ⟨x, hx⟩ : ∃ x, x = ns[k] := ⟨_, rfl⟩
      rw [← hx] at hcell HST hxs
      clear hx hkl hcell0 hbl
      cases k with
      | zero =>
        rw [if_pos rfl, List.append_nil] at HST
        rw [Nat.add_zero] at hcell
        have HNX : Hid (t ++ x = toS (textG true (ns.take (0 + 1)))) := Lib.hid (by rw [HST.out, ← toS_append (textG_bytes _ _) (strL_bd x), toS_strL, ← HTX.out])
        have hsum : t.size + x.size ≤ 9223372036854775807 := by omega
        go_wp2
        go_roundw
        case rel => exact ⟨1, _, by omega, by go_num, rfl, HNX.out, HBE.out⟩
        case measure => simp [intOf]; omega
      | succ j =>
        rw [if_neg (by omega)] at HST
        have hj2 : (0 : Int) < (j : Int) + 1 := by omega
        have HNX : Hid (t ++ ⟨#[32]⟩ ++ x = toS (textG true (ns.take (j + 1 + 1)))) := Lib.hid (by
          rw [HST.out, ← toS_append ((textG_bytes _ _).append (.of_mem (by simp))) (strL_bd x), toS_strL, ← toS_append (textG_bytes _ _) (.of_mem (by simp)), ← HTX.out]; rfl)
        have hone : (⟨#[32]⟩ : ByteArray).size = 1 := rfl
        have hs1 : t.size + (⟨#[32]⟩ : ByteArray).size ≤ 9223372036854775807 := by omega
        have hs1' : t.size + 1 ≤ 9223372036854775807 := by omega
        have hs2 : (t ++ ⟨#[32]⟩).size + x.size ≤ 9223372036854775807 := by rw [ByteArray.size_append]; omega
        have hs3 : t.size + 1 + x.size ≤ 9223372036854775807 := by omega
        have hs4 : t.size + (⟨#[32]⟩ : ByteArray).size + x.size ≤ 9223372036854775807 := by omega
        clear hone
        go_wp2
        go_roundw
        case rel => exact ⟨j + 2, _, by omega, by go_num, rfl, HNX.out, HBE.out⟩
        case measure => simp [intOf]; omega
    · obtain rfl : k = n := by omega
      have HTA : Hid (t = T) := Lib.hid (by rw [HTX.out, HN.out, List.take_length, HTT.out])
      clear hlt
      go_wp2
      go_ret
      exact ⟨by rw [HTA.out]; rfl, HBE.out⟩
end Go.Proofs.YtapalkipdmdceaaDoor
