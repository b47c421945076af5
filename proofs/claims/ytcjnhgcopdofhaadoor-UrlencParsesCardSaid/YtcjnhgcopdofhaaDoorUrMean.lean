/- The walk of urlenc's meaning. -/
import Derived.Test.YtcjnhgcopdofhaaDoorUrLoose
import Derived.Test.YtcjnhgcopdofhaaDoorBld
import Derived.StillTailTactics
import Derived.IntWalk
namespace Go.Proofs.YtcjnhgcopdofhaaDoor
open Go Go.RowKit

theorem bld_heap {B b : Nat} {bs : List Value} {w w' : World} (h : IsBld B b bs w) (e : w'.heap = w.heap) : IsBld B b bs w' := by
  have key : ∀ p, Lib.BuilderAt 66 5 B b p bs w → Lib.BuilderAt 66 5 B b p bs w' := fun p h => by
    obtain ⟨hB, v, hbk, hown, hne⟩ := h
    refine ⟨hB, v, by rw [e]; exact hbk, ?_, hne⟩
    unfold World.ownsRow at hown ⊢
    rw [e]; exact hown
  exact h.imp (key _) (key _)
theorem run_index_str (s : ByteArray) (i : Nat) (x : Int) (hx : x = (i : Int)) (h : i < s.size) (k : IntKind) (w : World) : (Instr.index 9 (.string s) (.int k x)).run Tryd.prog w = .ok (.int .u8 ((strL s).getD i 0)) w := by
  subst hx
  have hq : (if (0 : Int) ≤ (i : Int) then s[(i : Int).toNat]? else none) = some s[i] := by
    rw [if_pos (by omega), Int.toNat_natCast, getElem?_pos s i h]
  simp only [Instr.index, asIntOf, Sem.run_bind, Sem.run_pure, Result.andThen_ok, run_underlying Tryd.underlying9]
  rw [hq, strL_get s i h]
  simp only [Sem.run_pure]
set_option maxRecDepth 100000 in
set_option maxHeartbeats 2000000 in
theorem meaning_any (s : ByteArray) (w : World) (hs : s.size ≤ 1000000000) (hl : looseL (strL s) = (strL s).length) :
    Calls Tryd.prog 31 #[.string s] w fun e w' => e = .returned (.string (toS (meanL (strL s)))) ∧ Below w.heap.size w w' := by
  have HLEN := Lib.hid (length_strL s)
  have HBY := Lib.hid (meanL_bytes _ (Nat.le_refl _) (strL_bd s) hl)
  have HN := Lib.hid (bld_new w)
  have HB0 := Lib.hid (belowAlloc w (.cells #[.pointer none, .slice none 0 0] 66))
  have HL0 := Lib.hid hl
  clear hl
  go_enter Tryd.func31, Tryd.ntmps31
  go_wp2
  go_loopw [4] (fun v wr => ∃ (k : Nat) (M : List Int), k ≤ s.size ∧ v = .int .i64 (k : Int) ∧ looseL ((strL s).drop k) = ((strL s).drop k).length ∧ M ++ meanL ((strL s).drop k) = meanL (strL s) ∧ IsBld w.heap.size w.heap.size (ints .u8 M) wr ∧ Below w.heap.size w wr) (fun v _ => s.size - (intOf v).toNat)
  case atStart => exact ⟨0, [], Nat.zero_le _, rfl, by simpa using HL0.out, by simp, HN.out, HB0.out⟩
  case round =>
    obtain ⟨k, M, hk, rfl, hloose, hrun, hbld, hbel⟩ := hrel
    have HRUN := Lib.hid hrun
    have HBLD := Lib.hid hbld
    have HBE := Lib.hid hbel
    have HSZ := Lib.hid hbel.size
    have HML : Hid (M.length ≤ s.size) := Lib.hid (by
      have h1 := HBY.out.2
      rw [← hrun, List.length_append, HLEN.out] at h1; omega)
    by_cases hlt : k < s.size
    · have hd := drop_str s k hlt
      rw [hd] at hloose
      have hi0 : (0 : Int) ≤ (k : Int) := by omega
      rcases loose_all hloose with h | ⟨c, r, h, hc, hr⟩ | ⟨a, b, r, h, ha, hb, hr⟩
      · simp at h
      · injection h with h1 h2
        subst h1
        subst h2
        have q0 : ((s[k].toNat : Int) == 37) = false := by simp [hc]
        have HR := Lib.hid hr
        have HST : Hid (M ++ oneM (s[k].toNat : Int) :: meanL ((strL s).drop (k + 1)) = meanL (strL s)) := Lib.hid (by
          rw [← HRUN.out, hd, meanL_one _ hc])
        have HMB : Hid (IsBld w.heap.size w.heap.size (ints .u8 M) wr ∧ (ints .u8 M).length + 1 ≤ 140737488355328 ∧ w.heap.size ≤ wr.heap.size) := Lib.hid ⟨hbld, by rw [length_ints]; have := HML.out; omega, hbel.size⟩
        clear hr hloose hd hrun hbld hbel
        by_cases hp : (s[k].toNat : Int) = 43
        · have q1 : ((s[k].toNat : Int) == 43) = true := by simp [hp]
          have HO : Hid (oneM (s[k].toNat : Int) = 32) := Lib.hid (by rw [oneM, if_pos hp])
          clear hp hc
          go_wp2_with (go_at_call 47; (with_reducible refine (writeB_any _ _ _ _ _ HMB.out.1 HMB.out.2.1 HMB.out.2.2).mono ?_); rintro e w1 ⟨rfl, hb1, hb2⟩; have HF := Lib.hid (And.intro hb1 hb2); clear hb1 hb2)
          go_roundw
          case rel => exact ⟨k + 1, M ++ [32], by omega, by go_num, HR.out, by rw [← HST.out, HO.out]; simp, by rw [ints_append]; exact HF.out.1, HBE.out.trans HF.out.2⟩
          case measure => simp [intOf]; omega
        · have q1 : ((s[k].toNat : Int) == 43) = false := by simp [hp]
          have HO : Hid (oneM (s[k].toNat : Int) = (s[k].toNat : Int)) := Lib.hid (by rw [oneM, if_neg hp])
          clear hp hc
          go_wp2_with (go_at_call 47; (with_reducible refine (writeB_any _ _ _ _ _ HMB.out.1 HMB.out.2.1 HMB.out.2.2).mono ?_); rintro e w1 ⟨rfl, hb1, hb2⟩; have HF := Lib.hid (And.intro hb1 hb2); clear hb1 hb2)
          go_roundw
          case rel => exact ⟨k + 1, M ++ [(s[k].toNat : Int)], by omega, by go_num, HR.out, by rw [← HST.out, HO.out]; simp, by rw [ints_append]; exact HF.out.1, HBE.out.trans HF.out.2⟩
          case measure => simp [intOf]; omega
      · have hl3 := congrArg List.length h
        rw [← hd] at h
        simp only [List.length_cons, List.length_drop, HLEN.out] at hl3
        have hk2 : k + 2 < s.size := by omega
        have ea : (strL s).getD (k + 1) 0 = a := by
          have : ((strL s).drop k).getD 1 0 = a := by rw [h]; rfl
          rw [← this, List.getD_eq_getElem?_getD, List.getD_eq_getElem?_getD, List.getElem?_drop]
        have eb : (strL s).getD (k + 2) 0 = b := by
          have : ((strL s).drop k).getD 2 0 = b := by rw [h]; rfl
          rw [← this, List.getD_eq_getElem?_getD, List.getD_eq_getElem?_getD, List.getElem?_drop]
        have e0 : (s[k].toNat : Int) = 37 := by
          have : ((strL s).drop k).getD 0 0 = 37 := by rw [h]; rfl
          rw [hd] at this; exact this
        have er : (strL s).drop (k + 3) = r := by
          rw [← List.drop_drop, h]; rfl
        have q0 : ((s[k].toNat : Int) == 37) = true := by simp [e0]
        have abd := strL_bd s (k + 1)
        have bbd := strL_bd s (k + 2)
        rw [ea] at abd
        rw [eb] at bbd
        have wa := hexW_bd a
        have wb := hexW_bd b
        have HWA := Lib.hid (fun W : World => (uWorth_any a W abd.1 abd.2).mono (R' := fun e w' => e = .returned (.int .i64 (hexW a)) ∧ w' = W) fun e w' h => ⟨h.1, h.2.symm⟩)
        have HWB := Lib.hid (fun W : World => (uWorth_any b W bbd.1 bbd.2).mono (R' := fun e w' => e = .returned (.int .i64 (hexW b)) ∧ w' = W) fun e w' h => ⟨h.1, h.2.symm⟩)
        have i1 := fun W : World => run_index_str s (k + 1) ((k : Int) + 1) (by omega) (by omega) .i64 W
        have i2 := fun W : World => run_index_str s (k + 2) ((k : Int) + 2) (by omega) (by omega) .i64 W
        rw [ea] at i1
        rw [eb] at i2
        have HR : Hid (looseL ((strL s).drop (k + 3)) = ((strL s).drop (k + 3)).length) := Lib.hid (by rw [er]; exact hr)
        have HST : Hid (M ++ (16 * hexW a + hexW b) :: meanL ((strL s).drop (k + 3)) = meanL (strL s)) := Lib.hid (by
          rw [← HRUN.out, h, meanL_byte, er])
        have HMB : Hid (∀ W : World, W.heap = wr.heap → IsBld w.heap.size w.heap.size (ints .u8 M) W) := Lib.hid (fun W hW => bld_heap hbld hW)
        have hgt : 0 ≤ hexW a ∧ 0 ≤ hexW b := by omega
        obtain ⟨ga, gb⟩ := hgt
        obtain ⟨x, hx⟩ : ∃ x, x = hexW a := ⟨_, rfl⟩
        obtain ⟨y, hy⟩ : ∃ y, y = hexW b := ⟨_, rfl⟩
        rw [← hx] at HWA HST ga wa
        rw [← hy] at HWB HST gb wb
        have s3 : IntKind.i64.wrap (x * 16) = x * 16 := IntWalk.i64_in _ (by omega)
        have s4 : bits .or .i64 (x * 16) y = x * 16 + y := by
          have := or_above x y 4 (by omega) (by omega) (by omega) (by omega)
          simpa using this
        have s5 : IntKind.u8.wrap (x * 16 + y) = x * 16 + y := by rw [IntKind.wrap_u8]; omega
        have s1 : IntKind.i64.wrap ((k : Int) + 1) = (k : Int) + 1 := IntWalk.i64_in _ (by omega)
        have s2 : IntKind.i64.wrap ((k : Int) + 2) = (k : Int) + 2 := IntWalk.i64_in _ (by omega)
        clear hr hloose hd hrun hbld hbel h ea eb e0 er abd bbd ha hb hx hy hl3
        go_wp2_with fail
        go_still_tail 13, (by kernel_rfl)
        still_call (HWA.out _)
        repeat still_step
        still_call (HWB.out _)
        repeat still_step
        refine wpStill_nil ?_
        change wpList _ _ _ _ _ wr.drew
        have HMB2 : Hid (IsBld w.heap.size w.heap.size (ints .u8 M) wr.drew ∧ (ints .u8 M).length + 1 ≤ 140737488355328 ∧ w.heap.size ≤ wr.drew.heap.size ∧ Below w.heap.size w wr.drew) := Lib.hid ⟨HMB.out wr.drew rfl, by rw [length_ints]; have := HML.out; omega, HSZ.out, HBE.out.drew⟩
        have HE16 : Hid (x * 16 + y = 16 * x + y) := Lib.hid (by omega)
        clear HMB HBE
        generalize wr.drew = wq at *
        go_wp2_with (go_at_call 47; (with_reducible refine (writeB_any _ _ _ _ _ HMB2.out.1 HMB2.out.2.1 HMB2.out.2.2.1).mono ?_); rintro e w1 ⟨rfl, hb1, hb2⟩; have HF := Lib.hid (And.intro hb1 hb2); clear hb1 hb2)
        go_roundw
        case rel => exact ⟨k + 3, M ++ [x * 16 + y], by omega, by go_num, HR.out, by rw [← HST.out, HE16.out]; simp, by rw [ints_append]; exact HF.out.1, HMB2.out.2.2.2.trans HF.out.2⟩
        case measure => simp [intOf]; omega
    · obtain rfl : k = s.size := by omega
      have HE : Hid (M = meanL (strL s)) := Lib.hid (by
        have h := HRUN.out
        rw [List.drop_of_length_le (by rw [HLEN.out]; exact Nat.le_refl _)] at h
        simpa [meanL] using h)
      have HBB : Hid (IsBld w.heap.size w.heap.size (ints .u8 (meanL (strL s))) wr ∧ w.heap.size ≤ wr.heap.size) := Lib.hid ⟨HE.out ▸ hbld, hbel.size⟩
      clear hlt hloose hrun hbld hbel
      go_wp2_with (go_at_call 35; (with_reducible refine (bldString _ _ _ _ HBY.out.1 HBB.out.1 HBB.out.2).mono ?_); rintro e w1 ⟨rfl, hb1⟩; have HF := Lib.hid hb1; clear hb1)
      go_ret
      exact ⟨rfl, HBE.out.trans HF.out⟩
end Go.Proofs.YtcjnhgcopdofhaaDoor
