/- LxRefU: merged. -/
import Derived.RangeFuncNested
import Derived.RangeFuncBound
import Derived.RangeFuncCalls
import Derived.RangeFuncLeaves
import Derived.Shelf.Abstract
import Derived.Shelf.RegionOpen
import Derived.OwnWalkIn
import Derived.TacticsInMore
import Derived.LoopNIn
import Derived.LoopIn
import Derived.RangeFuncBox
import Derived.Deep.RegionWith
import Derived.Lib.Builder
import Derived.Lib.AppendStr
import Derived.Lib.UnsafeStr
import Derived.Lib.Slices
import Derived.Lib.Walk
import Derived.Laws.Externs
import Derived.OwnWalk
import Derived.Test.YtljdnjidphmkjaaDoorLx25
set_option linter.all false
namespace Go.Proofs.YtljdnjidphmkjaaDoor
open Go Go.RowKit
/-- What quoted hands back, of what stands behind the quote. -/
def QRout (Z : List Int × Nat × Bool) (p : Nat) : Value := .tuple #[.string (if Z.2.2 then toS Z.1 else ⟨#[]⟩), .int .i64 ((p + 1 + Z.2.1 : Nat) : Int), .bool Z.2.2]
theorem qr_no {Z : List Int × Nat × Bool} {M : List Int} {k p : Nat} {x : Int} (h : Z = (M, k, false)) (hx : x = ((p + 1 + k : Nat) : Int)) : QRout Z p = .tuple #[.string ⟨#[]⟩, .int .i64 x, .bool false] := by subst h; subst hx; rfl
theorem qr_yes {Z : List Int × Nat × Bool} {M : List Int} {k p : Nat} {x : Int} (h : Z = (M, k, true)) (hx : x = ((p + 1 + k : Nat) : Int)) : QRout Z p = .tuple #[.string (toS M), .int .i64 x, .bool true] := by subst h; subst hx; rfl
theorem take_two (l : List Int) (P : Nat) (d : Int) (r : List Int) (h : l.drop (P + 1) = d :: r) : (l.take (P + 2)).drop (P + 1) = [d] := by
  rw [List.drop_take, h]
  rw [show P + 2 - (P + 1) = 1 by omega]; rfl
set_option maxRecDepth 100000 in
set_option maxHeartbeats 8000000 in
theorem refQuoted_any (s : ByteArray) (p : Nat) (w : World) (hp : p < s.size) (hs : s.size ≤ 1000000) :
    Calls Tryd.prog 23 #[.string s, .int .i64 (p : Int)] w fun e w' => e = .returned (QRout (quotN ((strL s).drop (p + 1))) p) ∧ Below w.heap.size w w' := by
  obtain ⟨Z, hZ⟩ : ∃ Z, Z = quotN ((strL s).drop (p + 1)) := ⟨_, rfl⟩
  rw [← hZ]
  have HZ := Lib.hid hZ
  have HL := Lib.hid (length_strL s)
  clear hZ
  go_enter Tryd.func23, Tryd.ntmps23
  go_wp2_with fail
  go_loopw [1, 7] (fun av ov wr => ∃ (P j : Nat) (M : List Int), P = p + 1 + j ∧ av = .int .i64 (P : Int) ∧ ov = .string (toS M) ∧ P ≤ s.size ∧ M.length ≤ j ∧ Hid (Bytes M ∧ ∃ f, ((strL s).drop P).length < f ∧ Z = appQ M j (quotF f ((strL s).drop P))) ∧ Below w.heap.size w wr) (fun av _ _ => s.size - (intOf av).toNat)
  case atStart => exact ⟨p + 1, 0, [], rfl, by go_num, rfl, by omega, Nat.le_refl _, Lib.hid ⟨.of_mem (by simp), _, Nat.lt_succ_self _, HZ.out⟩, Below.refl _ _⟩
  case round =>
    obtain ⟨P, j, M, hP, rfl, rfl, hPs, hM, HRUN, hbel⟩ := hrel
    have HBE := Lib.hid hbel
    have HPP := Lib.hid hP
    obtain ⟨f, hf, hrun⟩ := HRUN.out.2
    have HMB := Lib.hid HRUN.out.1
    clear hbel HRUN HZ
    have hTs : (toS M).size ≤ 1000000 := by rw [size_toS]; omega
    obtain ⟨T, hT⟩ : ∃ T, T = toS M := ⟨_, rfl⟩
    have HT := Lib.hid hT
    rw [← hT] at hTs ⊢
    clear hT hP
    by_cases hlt : P < s.size
    · have hdr := drop_str s P hlt
      rw [hdr] at hf hrun
      obtain ⟨f', rfl⟩ : ∃ f', f = f' + 1 := ⟨f - 1, by omega⟩
      have hlt1 : (P : Int) < (s.size : Int) := by omega
      have hlt0 : (0 : Int) ≤ (P : Int) := by omega
      by_cases h32 : (s[P].toNat : Int) < 32
      · have HQ : Hid (Z = (M, j, false)) := Lib.hid (by rw [hrun, quotF_low h32]; simp [appQ])
        clear hf hrun hdr
        go_wp2_with fail
        go_ret3
        exact ⟨congrArg Ending.returned (qr_no HQ.out (by rw [HPP.out])).symm, HBE.out⟩
      · by_cases h34 : (s[P].toNat : Int) = 34
        · have HQ : Hid (Z = (M, 1 + j, true)) := Lib.hid (by rw [hrun, h34, quotF_end]; simp [appQ])
          have e34 : ((s[P].toNat : Int) == 34) = true := by rw [h34]; rfl
          clear hf hrun hdr h34
          go_wp2_with fail
          go_ret3
          have h := qr_yes HQ.out (x := (P : Int) + 1) (p := p) (by have := HPP.out; omega)
          rw [← HT.out] at h
          exact ⟨congrArg Ending.returned h.symm, HBE.out⟩
        · have e34 : ((s[P].toNat : Int) == 34) = false := by rw [beq_eq_false_iff_ne]; exact h34
          by_cases h92 : (s[P].toNat : Int) = 92
          · have e92 : ((s[P].toNat : Int) == 92) = true := by rw [h92]; rfl
            rw [h92] at hrun
            by_cases hl2 : P + 1 < s.size
            · have hdr2 := drop_str s (P + 1) hl2
              rw [hdr2] at hrun
              have hl3 : (P : Int) + 1 < (s.size : Int) := by omega
              have hl4 : (P : Int) + 2 ≤ (s.size : Int) := by omega
              have hTU : T.size + (s.extract (P + 1) (P + 2)).size ≤ 9223372036854775807 := by rw [ByteArray.size_extract]; omega
              by_cases hd : (s[P + 1].toNat : Int) = 34 ∨ (s[P + 1].toNat : Int) = 92
              · have hd2 : ((s[P + 1].toNat : Int) == 34) = true ∨ ((s[P + 1].toNat : Int) == 34) = false ∧ ((s[P + 1].toNat : Int) == 92) = true := by
                  rcases hd with hd | hd
                  · exact .inl (by rw [hd]; rfl)
                  · exact .inr ⟨by rw [hd]; rfl, by rw [hd]; rfl⟩
                have HEX : Hid (T ++ s.extract (P + 1) (P + 2) = toS (M ++ [(s[P + 1].toNat : Int)]) ∧ Bytes (M ++ [(s[P + 1].toNat : Int)])) := Lib.hid (by
                  have hb : Bytes [(s[P + 1].toNat : Int)] := .of_mem fun x hx => by rw [List.mem_singleton.1 hx]; exact byte_of s _ hl2
                  refine ⟨?_, HMB.out.append hb⟩
                  rw [HT.out, ← toS_append HMB.out hb]
                  congr 1
                  exact (eq_toS hb).2 (by rw [strL_extract]; exact take_two _ _ _ _ hdr2))
                have HQ : Hid (((strL s).drop (P + 2)).length < f' ∧ Z = appQ (M ++ [(s[P + 1].toNat : Int)]) (2 + j) (quotF f' ((strL s).drop (P + 2)))) := Lib.hid ⟨by
                  rw [List.length_cons, List.length_drop, HL.out] at hf
                  rw [List.length_drop, HL.out]; omega, by
                  rw [hrun, quotF_esc hd, appQ_app, Nat.add_comm j 2]⟩
                clear hf hrun hdr hdr2 hd h92 h34
                rcases hd2 with d1 | ⟨d1, d2⟩
                · go_wp2_with fail
                  go_roundw
                  case rel => exact ⟨P + 2, j + 2, _, by have := HPP.out; omega, by go_num, by rw [HEX.out.1], by omega, by simp; omega, Lib.hid ⟨HEX.out.2, f', HQ.out.1, by rw [Nat.add_comm j 2]; exact HQ.out.2⟩, HBE.out⟩
                  case measure => simp [intOf]; omega
                · go_wp2_with fail
                  go_roundw
                  case rel => exact ⟨P + 2, j + 2, _, by have := HPP.out; omega, by go_num, by rw [HEX.out.1], by omega, by simp; omega, Lib.hid ⟨HEX.out.2, f', HQ.out.1, by rw [Nat.add_comm j 2]; exact HQ.out.2⟩, HBE.out⟩
                  case measure => simp [intOf]; omega
              · have d1 : ((s[P + 1].toNat : Int) == 34) = false := by rw [beq_eq_false_iff_ne]; exact fun h => hd (.inl h)
                have d2 : ((s[P + 1].toNat : Int) == 92) = false := by rw [beq_eq_false_iff_ne]; exact fun h => hd (.inr h)
                have HQ : Hid (Z = (M, 1 + j, false)) := Lib.hid (by rw [hrun, quotF_esc_no (by simpa using hd)]; simp [appQ])
                clear hf hrun hdr hdr2 hd h92 h34
                go_wp2_with fail
                go_ret3
                exact ⟨congrArg Ending.returned (qr_no HQ.out (by rw [HPP.out]; omega)).symm, HBE.out⟩
            · have hl3 : ¬ (P : Int) + 1 < (s.size : Int) := by omega
              have HQ : Hid (Z = (M, 1 + j, false)) := Lib.hid (by rw [hrun, List.drop_eq_nil_of_le (by rw [HL.out]; omega), quotF_esc_no (by simp)]; simp [appQ])
              clear hf hrun hdr h92 h34
              go_wp2_with fail
              go_ret3
              exact ⟨congrArg Ending.returned (qr_no HQ.out (by rw [HPP.out]; omega)).symm, HBE.out⟩
          · have e92 : ((s[P].toNat : Int) == 92) = false := by rw [beq_eq_false_iff_ne]; exact h92
            have hex : strL (s.extract P s.size) = (strL s).drop P := by rw [strL_extract, List.take_of_length_le (by rw [HL.out]; exact Nat.le_refl _)]
            have HNX := Lib.hid (fun W : World => refNext_any (s.extract P s.size) W (by rw [ByteArray.size_extract]; omega))
            rw [hex] at HNX
            by_cases hx : (nxL ((strL s).drop P)).1 = -1
            · have HQ : Hid (Z = (M, j, false)) := Lib.hid (by rw [hrun, quotF_bad h32 h34 h92 (by rw [← hdr]; exact hx)]; simp [appQ])
              rw [hx] at HNX
              clear hf hrun hdr h92 h34 hx
              go_wp2_with fail
              refine (HNX.out _).mono ?_
              rintro e w1 ⟨rfl, hb1⟩
              have HB1 := Lib.hid (HBE.out.trans (hb1.mono HBE.out.size))
              clear hb1
              go_wp2_with fail
              go_ret3
              exact ⟨congrArg Ending.returned (qr_no HQ.out (by rw [HPP.out])).symm, HB1.out⟩
            · obtain ⟨g1, g2, g3, g4, g5, g6, g7⟩ := nx_found hx
              rw [List.length_drop, HL.out] at g4
              have hgo := quotF_go (f := f') h32 h34 h92 (by rw [← hdr]; exact hx)
              rw [← hdr] at hgo hrun hf
              obtain ⟨n, hn⟩ : ∃ n, n = (nxL ((strL s).drop P)).2 := ⟨_, rfl⟩
              obtain ⟨y, hy⟩ : ∃ y, y = (nxL ((strL s).drop P)).1 := ⟨_, rfl⟩
              rw [← hn] at HNX hgo g3 g4 g5
              rw [← hy] at HNX g6
              have hy0 : ¬ y < 0 := by omega
              have hPn : (P : Int) + (n : Int) ≤ (s.size : Int) := by omega
              have hTU : T.size + (s.extract P (P + n)).size ≤ 9223372036854775807 := by rw [ByteArray.size_extract]; omega
              have HEX : Hid (T ++ s.extract P (P + n) = toS (M ++ ((strL s).drop P).take n) ∧ Bytes (M ++ ((strL s).drop P).take n)) := Lib.hid (by
                have hb : Bytes (((strL s).drop P).take n) := ((strL_bd s).drop P).take n
                refine ⟨?_, HMB.out.append hb⟩
                rw [HT.out, ← toS_append HMB.out hb]
                congr 1
                exact (eq_toS hb).2 (by rw [strL_extract, List.drop_take, Nat.add_sub_cancel_left]))
              have HQ : Hid (((strL s).drop (P + n)).length < f' ∧ Z = appQ (M ++ ((strL s).drop P).take n) (j + n) (quotF f' ((strL s).drop (P + n)))) := Lib.hid ⟨by
                rw [List.length_drop, HL.out] at hf ⊢; omega, by
                rw [hrun, hgo, appQ_app, List.drop_drop]⟩
              have HLE : Hid ((((strL s).drop P).take n).length ≤ n) := Lib.hid (by rw [List.length_take]; omega)
              clear hf hrun hdr h92 h34 hx hgo hn hy g1 g2 g7
              go_wp2_with fail
              refine (HNX.out _).mono ?_
              rintro e w1 ⟨rfl, hb1⟩
              have HB1 := Lib.hid (HBE.out.trans (hb1.mono HBE.out.size))
              clear hb1
              go_wp2_with fail
              go_roundw
              case rel => exact ⟨P + n, j + n, _, by have := HPP.out; omega, by go_num, by rw [HEX.out.1], by omega, by rw [List.length_append]; have := HLE.out; omega, Lib.hid ⟨HEX.out.2, f', HQ.out.1, HQ.out.2⟩, HB1.out⟩
              case measure => simp [intOf]; omega
    · have HQ : Hid (Z = (M, j, false)) := Lib.hid (by rw [hrun, List.drop_eq_nil_of_le (by rw [HL.out]; omega), quotF_nil]; simp [appQ])
      have hlt1 : ¬ (P : Int) < (s.size : Int) := by omega
      clear hf hrun
      go_wp2_with fail
      go_ret3
      exact ⟨congrArg Ending.returned (qr_no HQ.out (by rw [HPP.out])).symm, HBE.out⟩
end Go.Proofs.YtljdnjidphmkjaaDoor
