/- PolRt3, PolRt4, PolRt5, PolRt6, PolPrt, PolGreatM, PolAliveM, PolGreat, PolSmE: merged. -/
import Derived.Test.YtcjfealalokjaaaGreatDoorPa18
set_option linter.all false
namespace Go.Proofs.YtcjfealalokjaaaGreatDoor
open Go Go.RowKit
theorem Marks.under {w w' : World} (hm : Marks w) (hb : Below w.heap.size w w') : Marks w' := Blk.below hm hb (Blk.lt hm)
theorem all_take_succ {α : Type} (q : α → Bool) (l : List α) (i : Nat) (hi : i < l.length) : (l.take (i + 1)).all q = ((l.take i).all q && q l[i]) := by
  rw [List.take_succ_eq_append_getElem hi, List.all_append]; simp
theorem all_take_false {α : Type} (q : α → Bool) (l : List α) (i : Nat) (hi : i < l.length) (h : q l[i] = false) : l.all q = false := by
  rw [Bool.eq_false_iff]
  intro ha
  have := List.all_eq_true.1 ha l[i] (List.getElem_mem hi)
  rw [h] at this; cases this
theorem eg_quotable : ∀ args w, (callFunc 71 args).run Tryz.prog w = .ok (.enter 71 args) w := enters_of Tryz.func71 (by kernel_rfl) rfl
set_option maxRecDepth 100000 in
set_option maxHeartbeats 4000000 in
theorem allS_any {l : List ByteArray} {A : Option Addr} {c : Nat} {w : World} (hl : l.length ≤ 1000000) (hs : ∀ t ∈ l, t.size ≤ 1000000000) (hm : Marks w) (hr : l ≠ [] → ∃ g o, A = some ⟨g, o, none⟩ ∧ g < w.heap.size ∧ RepTx w g o l) :
    Calls Tryz.prog 70 #[.slice A l.length c, .func (.func 71) #[] #[]] w fun e w' => e = .returned (.bool (l.all fun s => (quoteN (strL s)).2)) ∧ Below w.heap.size w w' := by
  have HS := Lib.hid hs
  have HM := Lib.hid hm
  have HRE := Lib.hid hr
  have eg := eg_quotable
  obtain ⟨n, hn⟩ : ∃ n, n = l.length := ⟨_, rfl⟩
  have HN := Lib.hid hn
  rw [← hn] at hl ⊢
  obtain ⟨R, hR⟩ : ∃ R, R = l.all fun s => (quoteN (strL s)).2 := ⟨_, rfl⟩
  have HR := Lib.hid hR
  rw [← hR]
  clear hs hm hr hn hR
  go_enter Tryz.func70, Tryz.ntmps70
  go_wp2
  go_loopw [9] (fun v wr => ∃ i : Nat, i ≤ n ∧ v = .int .i64 (i : Int) ∧ Below w.heap.size w wr ∧ (l.take i).all (fun s => (quoteN (strL s)).2) = true) (fun v _ => n - (intOf v).toNat)
  case atStart => exact ⟨0, Nat.zero_le _, rfl, Below.refl _ _, by simp⟩
  case round =>
    obtain ⟨i, hi, rfl, hb, ha⟩ := hrel
    have HB := Lib.hid hb
    have HA := Lib.hid ha
    clear ha
    by_cases hlt : i < n
    · have hil : i < l.length := by rw [← HN.out]; exact hlt
      obtain ⟨g, o, rfl, hg, hre⟩ := HRE.out (fun e => by rw [e] at hil; exact absurd hil (Nat.not_lt_zero _))
      obtain ⟨t, ht, _, k0⟩ := hre i hil
      rw [List.getElem?_eq_getElem hil] at ht
      injection ht with ht
      have q0 := (hb.cell (p := ⟨g, o + i, none⟩) hg).trans k0
      have HC := Lib.hid (quotable_any t wr (HM.out.under hb) (HS.out t (by rw [← ht]; exact List.getElem_mem hil)))
      have hi1 : (i : Int) < (n : Int) := by omega
      have hi2 : (0 : Int) ≤ (i : Int) := by omega
      obtain ⟨X, hX⟩ : ∃ X, X = (quoteN (strL t)).2 := ⟨_, rfl⟩
      rw [← hX] at HC
      have HX : Hid (X = (quoteN (strL l[i])).2) := Lib.hid (by rw [hX, ht])
      have HIL := Lib.hid hil
      clear hb k0 hX ht hre
      cases X with
      | true =>
        go_wp2_with fail
        (with_reducible refine HC.out.mono ?_)
        rintro e w3 ⟨rfl, hb3⟩
        have HB3 := Lib.hid hb3
        clear hb3 q0
        go_wp2
        go_roundw
        case rel => exact ⟨i + 1, by omega, by go_num, HB.out.trans (HB3.out.mono HB.out.size), by rw [all_take_succ _ _ _ HIL.out, HA.out, ← HX.out]; rfl⟩
        case measure => simp [intOf]; omega
      | false =>
        go_wp2_with fail
        (with_reducible refine HC.out.mono ?_)
        rintro e w3 ⟨rfl, hb3⟩
        have HB3 := Lib.hid hb3
        clear hb3 q0
        go_wp2
        go_ret
        exact ⟨by (rw [HR.out, all_take_false _ _ i HIL.out HX.out.symm]) <;> rfl, HB.out.trans (HB3.out.mono HB.out.size)⟩
    · obtain rfl : i = n := by omega
      have hi1 : ¬ (i : Int) < (i : Int) := by omega
      have hall : l.take i = l := List.take_of_length_le (by rw [HN.out]; exact Nat.le_refl _)
      have HAL : Hid (R = true) := Lib.hid (by have := HA.out; rw [hall] at this; rw [HR.out]; exact this)
      clear hb hall
      go_wp2
      go_ret
      exact ⟨by (rw [HAL.out]) <;> rfl, HB.out⟩
set_option maxRecDepth 100000 in
set_option maxHeartbeats 4000000 in
theorem allE_any {fn : Nat} {B : Nat} {q : Ex → Bool} (eg : ∀ args w, (callFunc fn args).run Tryz.prog w = .ok (.enter fn args) w) {l : List Ex} {A : Option Addr} {c : Nat} {w : World} (hB : B ≤ w.heap.size) (hl : l.length ≤ 1000000)
    (hstep : ∀ x ∈ l, ∀ W v, Below w.heap.size w W → RepE W (fun k => k < B) x v → Calls Tryz.prog fn #[v] W fun e w' => e = .returned (.bool (q x)) ∧ Below W.heap.size W w')
    (hr : l ≠ [] → ∃ g o, A = some ⟨g, o, none⟩ ∧ g < B ∧ g < w.heap.size ∧ RepEs w (fun k => k < B) g o l) :
    Calls Tryz.prog 72 #[.slice A l.length c, .func (.func fn) #[] #[]] w fun e w' => e = .returned (.bool (l.all q)) ∧ Below w.heap.size w w' := by
  have HST := Lib.hid hstep
  have HRE := Lib.hid hr
  have HBW := Lib.hid hB
  obtain ⟨n, hn⟩ : ∃ n, n = l.length := ⟨_, rfl⟩
  have HN := Lib.hid hn
  rw [← hn] at hl ⊢
  obtain ⟨R, hR⟩ : ∃ R, R = l.all q := ⟨_, rfl⟩
  have HR := Lib.hid hR
  rw [← hR]
  clear hstep hr hn hR hB
  go_enter Tryz.func72, Tryz.ntmps72
  go_wp2
  go_loopw [9] (fun v wr => ∃ i : Nat, i ≤ n ∧ v = .int .i64 (i : Int) ∧ Below w.heap.size w wr ∧ (l.take i).all q = true) (fun v _ => n - (intOf v).toNat)
  case atStart => exact ⟨0, Nat.zero_le _, rfl, Below.refl _ _, by simp⟩
  case round =>
    obtain ⟨i, hi, rfl, hb, ha⟩ := hrel
    have HB := Lib.hid hb
    have HA := Lib.hid ha
    clear ha
    by_cases hlt : i < n
    · have hil : i < l.length := by rw [← HN.out]; exact hlt
      have hbB := hb.mono HBW.out
      obtain ⟨g, o, rfl, hg, _, hre⟩ := HRE.out (fun e => by rw [e] at hil; exact absurd hil (Nat.not_lt_zero _))
      obtain ⟨v, hrx, a0, a1, a2, a3, a4, rfl, k0, k1, k2, k3, k4⟩ := hre.at i hil
      obtain ⟨x0, x1, x2, Y, xn, xc, x4, e⟩ := hrx.form
      simp only [Value.agg.injEq, Array.mk.injEq, List.cons.injEq, and_true] at e
      obtain ⟨rfl, rfl, rfl, rfl, rfl⟩ := e
      have q0 := (hbB.cell (p := ⟨g, o + i * 5, none⟩) hg).trans k0
      have q1 := (hbB.cell (p := ⟨g, o + i * 5 + 1, none⟩) hg).trans k1
      have q2 := (hbB.cell (p := ⟨g, o + i * 5 + 2, none⟩) hg).trans k2
      have q3 := (hbB.cell (p := ⟨g, o + i * 5 + 3, none⟩) hg).trans k3
      have q4 := (hbB.cell (p := ⟨g, o + i * 5 + 4, none⟩) hg).trans k4
      obtain ⟨v1, hv1⟩ : ∃ W, W = wr.alloc (.cells #[.int .i64 x0, .string x1, .int .i64 x2, .slice Y xn xc, .int .i64 x4] 42) := ⟨_, rfl⟩
      have hbv : Below wr.heap.size wr v1 := by rw [hv1]; exact belowAlloc wr _
      have HBV : Hid (Below w.heap.size w v1) := Lib.hid (hb.trans (hbv.mono hb.size))
      have hrv := RepE.keeps (S := fun k => k < B) (T := fun k => k < B) (Keeps.below (HBV.out.mono HBW.out) (fun _ h _ => h)) (fun _ h _ => h) _ _ hrx
      have HC := Lib.hid (HST.out l[i] (List.getElem_mem hil) v1 _ HBV.out hrv)
      have HV1 := Lib.hid hv1
      have hi1 : (i : Int) < (n : Int) := by omega
      have hi2 : (0 : Int) ≤ (i : Int) := by omega
      obtain ⟨X, hX⟩ : ∃ X, X = q l[i] := ⟨_, rfl⟩
      rw [← hX] at HC
      have HX := Lib.hid hX
      have HIL := Lib.hid hil
      clear hb hbB k0 k1 k2 k3 k4 hX hre hrx hrv hv1 hbv
      cases X with
      | true =>
        go_wp2_with fail
        rw [← HV1.out]
        (with_reducible refine HC.out.mono ?_)
        rintro e w3 ⟨rfl, hb3⟩
        have HB3 := Lib.hid hb3
        clear hb3 q0 q1 q2 q3 q4
        go_wp2
        go_roundw
        case rel => exact ⟨i + 1, by omega, by go_num, HBV.out.trans (HB3.out.mono HBV.out.size), by rw [all_take_succ _ _ _ HIL.out, HA.out, ← HX.out]; rfl⟩
        case measure => simp [intOf]; omega
      | false =>
        go_wp2_with fail
        rw [← HV1.out]
        (with_reducible refine HC.out.mono ?_)
        rintro e w3 ⟨rfl, hb3⟩
        have HB3 := Lib.hid hb3
        clear hb3 q0 q1 q2 q3 q4
        go_wp2
        go_ret
        exact ⟨by (rw [HR.out, all_take_false _ _ i HIL.out HX.out.symm]) <;> rfl, HBV.out.trans (HB3.out.mono HBV.out.size)⟩
    · obtain rfl : i = n := by omega
      have hi1 : ¬ (i : Int) < (i : Int) := by omega
      have hall : l.take i = l := List.take_of_length_le (by rw [HN.out]; exact Nat.le_refl _)
      have HAL : Hid (R = true) := Lib.hid (by have := HA.out; rw [hall] at this; rw [HR.out]; exact this)
      clear hb hall
      go_wp2
      go_ret
      exact ⟨by (rw [HAL.out]) <;> rfl, HB.out⟩
set_option maxRecDepth 100000 in
set_option maxHeartbeats 4000000 in
theorem allEP_any {fn : Nat} {kb : Nat} {B : Nat} {q : Ex → Bool} (eg : ∀ args w, (callFunc fn args).run Tryz.prog w = .ok (.enter fn args) w) {l : List Ex} {A : Option Addr} {c : Nat} {w : World} (hB : B ≤ w.heap.size) (hl : l.length ≤ 1000000)
    (hstep : ∀ x ∈ l, ∀ W v, Below w.heap.size w W → RepE W (fun k => k < B) x v → Calls Tryz.prog fn #[v, .pointer (some ⟨kb, 0, none⟩)] W fun e w' => e = .returned (.bool (q x)) ∧ Below W.heap.size W w')
    (hr : l ≠ [] → ∃ g o, A = some ⟨g, o, none⟩ ∧ g < B ∧ g < w.heap.size ∧ RepEs w (fun k => k < B) g o l) :
    Calls Tryz.prog 72 #[.slice A l.length c, .func (.func fn) #[] #[.pointer (some ⟨kb, 0, none⟩)]] w fun e w' => e = .returned (.bool (l.all q)) ∧ Below w.heap.size w w' := by
  have HST := Lib.hid hstep
  have HRE := Lib.hid hr
  have HBW := Lib.hid hB
  obtain ⟨n, hn⟩ : ∃ n, n = l.length := ⟨_, rfl⟩
  have HN := Lib.hid hn
  rw [← hn] at hl ⊢
  obtain ⟨R, hR⟩ : ∃ R, R = l.all q := ⟨_, rfl⟩
  have HR := Lib.hid hR
  rw [← hR]
  clear hstep hr hn hR hB
  go_enter Tryz.func72, Tryz.ntmps72
  go_wp2
  go_loopw [9] (fun v wr => ∃ i : Nat, i ≤ n ∧ v = .int .i64 (i : Int) ∧ Below w.heap.size w wr ∧ (l.take i).all q = true) (fun v _ => n - (intOf v).toNat)
  case atStart => exact ⟨0, Nat.zero_le _, rfl, Below.refl _ _, by simp⟩
  case round =>
    obtain ⟨i, hi, rfl, hb, ha⟩ := hrel
    have HB := Lib.hid hb
    have HA := Lib.hid ha
    clear ha
    by_cases hlt : i < n
    · have hil : i < l.length := by rw [← HN.out]; exact hlt
      have hbB := hb.mono HBW.out
      obtain ⟨g, o, rfl, hg, _, hre⟩ := HRE.out (fun e => by rw [e] at hil; exact absurd hil (Nat.not_lt_zero _))
      obtain ⟨v, hrx, a0, a1, a2, a3, a4, rfl, k0, k1, k2, k3, k4⟩ := hre.at i hil
      obtain ⟨x0, x1, x2, Y, xn, xc, x4, e⟩ := hrx.form
      simp only [Value.agg.injEq, Array.mk.injEq, List.cons.injEq, and_true] at e
      obtain ⟨rfl, rfl, rfl, rfl, rfl⟩ := e
      have q0 := (hbB.cell (p := ⟨g, o + i * 5, none⟩) hg).trans k0
      have q1 := (hbB.cell (p := ⟨g, o + i * 5 + 1, none⟩) hg).trans k1
      have q2 := (hbB.cell (p := ⟨g, o + i * 5 + 2, none⟩) hg).trans k2
      have q3 := (hbB.cell (p := ⟨g, o + i * 5 + 3, none⟩) hg).trans k3
      have q4 := (hbB.cell (p := ⟨g, o + i * 5 + 4, none⟩) hg).trans k4
      obtain ⟨v1, hv1⟩ : ∃ W, W = wr.alloc (.cells #[.int .i64 x0, .string x1, .int .i64 x2, .slice Y xn xc, .int .i64 x4] 42) := ⟨_, rfl⟩
      have hbv : Below wr.heap.size wr v1 := by rw [hv1]; exact belowAlloc wr _
      have HBV : Hid (Below w.heap.size w v1) := Lib.hid (hb.trans (hbv.mono hb.size))
      have hrv := RepE.keeps (S := fun k => k < B) (T := fun k => k < B) (Keeps.below (HBV.out.mono HBW.out) (fun _ h _ => h)) (fun _ h _ => h) _ _ hrx
      have HC := Lib.hid (HST.out l[i] (List.getElem_mem hil) v1 _ HBV.out hrv)
      have HV1 := Lib.hid hv1
      have hi1 : (i : Int) < (n : Int) := by omega
      have hi2 : (0 : Int) ≤ (i : Int) := by omega
      obtain ⟨X, hX⟩ : ∃ X, X = q l[i] := ⟨_, rfl⟩
      rw [← hX] at HC
      have HX := Lib.hid hX
      have HIL := Lib.hid hil
      clear hb hbB k0 k1 k2 k3 k4 hX hre hrx hrv hv1 hbv
      cases X with
      | true =>
        go_wp2_with fail
        rw [← HV1.out]
        (with_reducible refine HC.out.mono ?_)
        rintro e w3 ⟨rfl, hb3⟩
        have HB3 := Lib.hid hb3
        clear hb3 q0 q1 q2 q3 q4
        go_wp2
        go_roundw
        case rel => exact ⟨i + 1, by omega, by go_num, HBV.out.trans (HB3.out.mono HBV.out.size), by rw [all_take_succ _ _ _ HIL.out, HA.out, ← HX.out]; rfl⟩
        case measure => simp [intOf]; omega
      | false =>
        go_wp2_with fail
        rw [← HV1.out]
        (with_reducible refine HC.out.mono ?_)
        rintro e w3 ⟨rfl, hb3⟩
        have HB3 := Lib.hid hb3
        clear hb3 q0 q1 q2 q3 q4
        go_wp2
        go_ret
        exact ⟨by (rw [HR.out, all_take_false _ _ i HIL.out HX.out.symm]) <;> rfl, HBV.out.trans (HB3.out.mono HBV.out.size)⟩
    · obtain rfl : i = n := by omega
      have hi1 : ¬ (i : Int) < (i : Int) := by omega
      have hall : l.take i = l := List.take_of_length_le (by rw [HN.out]; exact Nat.le_refl _)
      have HAL : Hid (R = true) := Lib.hid (by have := HA.out; rw [hall] at this; rw [HR.out]; exact this)
      clear hb hall
      go_wp2
      go_ret
      exact ⟨by (rw [HAL.out]) <;> rfl, HB.out⟩
end Go.Proofs.YtcjfealalokjaaaGreatDoor
namespace Go.Proofs.YtcjfealalokjaaaGreatDoor
open Go Go.RowKit
theorem word_var (s : ByteArray) : (decide (0 < s.size) && decide (spellN (wordT s) = strL s)) = !(decide (spellN (wordT s) = [])) := by
  have e : spellN (wordT s) = if wordN (strL s) = s.size ∧ s.size ≤ 32 then strL s else [] := rfl
  have hl := length_strL s
  rw [e]
  by_cases h : wordN (strL s) = s.size ∧ s.size ≤ 32
  · rw [if_pos h]
    by_cases h0 : 0 < s.size
    · have : strL s ≠ [] := fun e => by rw [e] at hl; simp at hl; omega
      simp [h0, this]
    · have : strL s = [] := List.eq_nil_of_length_eq_zero (by omega)
      simp [h0, this]
  · rw [if_neg h]
    by_cases h0 : 0 < s.size
    · have : ¬ ([] = strL s) := fun e => by rw [← e] at hl; simp at hl; omega
      simp [this]
    · simp [h0]
/-- What the document's reference and the program ask of an expression is the same. -/
theorem good_eq (f : Nat) (op n p : Int) (s : ByteArray) (l : List Ex) : goodF (f + 1) (.mk op s n l p) = (mayB op l.length && (saysB op s n && l.all (goodF f))) := by
  rw [goodF]
  unfold mayB
  by_cases h1 : op < 1 ∨ 14 < op
  · rw [if_pos h1, if_pos h1]; rfl
  rw [if_neg h1, if_neg h1]
  by_cases h5 : op ≤ 5
  · rw [if_pos h5, if_pos h5]
    cases l with
    | cons x r => simp [isNilL]
    | nil =>
      have e : leafG op s n = saysB op s n := by
        unfold leafG saysB
        by_cases o1 : op = 1
        · rw [if_pos o1, if_pos o1]
        rw [if_neg o1, if_neg o1]
        by_cases o2 : op = 2
        · rw [if_pos o2, if_pos o2]
        rw [if_neg o2, if_neg o2]
        by_cases o3 : op = 3 ∨ op = 5
        · rw [if_pos o3, if_pos o3]
        rw [if_neg o3, if_neg o3, if_pos (show op = 4 by omega)]
        have hv := word_var s
        unfold varW
        rw [← hv]
        cases kept s <;> simp [Bool.and_assoc]
      rw [e]; simp [isNilL]
  rw [if_neg h5, if_neg h5]
  have es : saysB op s n = (decide (s = E0) && decide (n = 0)) := by
    unfold saysB
    rw [if_neg (by omega), if_neg (by omega), if_neg (by omega), if_neg (by omega)]
  rw [es]
  by_cases hn : n = 0
  · by_cases hs : s = E0
    · by_cases o6 : op = 6
      · subst o6
        by_cases hl : l.length = 1
        · rw [if_neg (by rintro (h | h | ⟨h, h2⟩ | ⟨h, h2, h3⟩ | ⟨h, h2⟩) <;> first | exact h hn | exact h hs | exact h2 hl | exact h3 hl | omega), if_pos rfl]; simp [hl, hs, hn]
        · rw [if_pos (.inr (.inr (.inl ⟨rfl, hl⟩))), if_pos rfl]; simp [hl]
      by_cases o13 : op = 13
      · subst o13
        by_cases hl : 2 ≤ l.length
        · rw [if_neg (by rintro (h | h | ⟨h, h2⟩ | ⟨h, h2, h3⟩ | ⟨h, h2⟩) <;> first | exact h hn | exact h hs | exact h2 hl | exact h3 hl | omega), if_neg (by decide), if_pos rfl]; simp [hl, hs, hn]
        · rw [if_pos (.inr (.inr (.inr (.inr ⟨rfl, by omega⟩)))), if_neg (by decide), if_pos rfl]; simp [hl]
      by_cases hl : l.length = 2
      · rw [if_neg (by rintro (h | h | ⟨h, h2⟩ | ⟨h, h2, h3⟩ | ⟨h, h2⟩) <;> first | exact h hn | exact h hs | exact h2 hl | exact h3 hl | omega), if_neg o6, if_neg o13]; simp [hl, hs, hn]
      · rw [if_pos (.inr (.inr (.inr (.inl ⟨o6, o13, hl⟩)))), if_neg o6, if_neg o13]; simp [hl]
    · rw [if_pos (.inr (.inl hs))]; simp [hs]
  · rw [if_pos (.inl hn)]; simp [hn]
/-- What is asked of isRightWithin, f levels left. -/
def RtAsk (f : Nat) : Prop := ∀ (e : Ex) (B : Nat) (W : World) (v : Value), MildE e → Marks W → B ≤ W.heap.size → RepE W (fun k => k < B) e v →
  Calls Tryz.prog 126 #[v, .int .i64 (200 - (f : Int))] W fun e' w' => e' = .returned (.bool (goodF f e)) ∧ Below W.heap.size W w'
set_option maxRecDepth 100000 in
set_option maxHeartbeats 2000000 in
theorem rtClosure {f : Nat} (hf : f + 1 ≤ 200) (ih : RtAsk f) {e : Ex} {B : Nat} {W : World} {v : Value} {kb : Nat} (he : MildE e) (hm : Marks W) (hB : B ≤ W.heap.size) (hv : RepE W (fun k => k < B) e v) (hkl : kb < W.heap.size) (hk : W.cell? ⟨kb, 0, none⟩ = some (.int .i64 (200 - ((f + 1 : Nat) : Int)))) :
    Calls Tryz.prog 156 #[v, .pointer (some ⟨kb, 0, none⟩)] W fun e' w' => e' = .returned (.bool (goodF f e)) ∧ Below W.heap.size W w' := by
  obtain ⟨O, hO⟩ : ∃ O : Int, O = 200 - ((f + 1 : Nat) : Int) := ⟨_, rfl⟩
  have hO1 : (200 - (f : Int)) = O + 1 := by rw [hO]; omega
  rw [← hO] at hk
  have hO0 : 0 ≤ O := by rw [hO]; omega
  have hO2 : O < 200 := by rw [hO]; omega
  obtain ⟨x0, x1, x2, Y, xn, xc, x4, rfl⟩ := hv.form
  obtain ⟨w1, hw1⟩ : ∃ V, V = W.alloc (.cells #[.int .i64 x0, .string x1, .int .i64 x2, .slice Y xn xc, .int .i64 x4] 42) := ⟨_, rfl⟩
  have hb1 : Below W.heap.size W w1 := by rw [hw1]; exact belowAlloc W _
  have hE1 : Blk w1 W.heap.size 42 [.int .i64 x0, .string x1, .int .i64 x2, .slice Y xn xc, .int .i64 x4] := by rw [hw1]; exact heap_alloc_new W _
  have HC := Lib.hid (ih e B w1 _ he (hm.under hb1) (Nat.le_trans hB hb1.size) (RepE.keeps (S := fun k => k < B) (T := fun k => k < B) (Keeps.below (hb1.mono hB) (fun _ h _ => h)) (fun _ h _ => h) _ _ hv))
  rw [hO1] at HC
  obtain ⟨X, hX⟩ : ∃ X, X = goodF f e := ⟨_, rfl⟩
  rw [← hX] at HC ⊢
  have hk1 : w1.cell? ⟨kb, 0, none⟩ = some (.int .i64 O) := (hb1.cell (p := ⟨kb, 0, none⟩) hkl).trans hk
  obtain ⟨c0, c1, c2, c3, c4⟩ := cells5 hE1
  have HB1 := Lib.hid hb1
  have HW1 := Lib.hid hw1
  rw [hw1] at hk1 c0 c1 c2 c3 c4
  clear ih he hm hB hv hX hb1 hE1 hw1 hO hO1 hk hf
  go_enter Tryz.func156, Tryz.ntmps156
  go_wp2_with fail
  rw [← HW1.out]
  (with_reducible refine HC.out.mono ?_)
  rintro e' w2 ⟨rfl, hb2⟩
  have HB2 := Lib.hid (HB1.out.trans (hb2.mono HB1.out.size))
  clear hb2
  go_wp2
  go_ret
  exact ⟨rfl, HB2.out⟩
theorem eg_rtClosure : ∀ args w, (callFunc 156 args).run Tryz.prog w = .ok (.enter 156 args) w := enters_of Tryz.func156 (by kernel_rfl) rfl
theorem eg_rtExpr : ∀ args w, (callFunc 73 args).run Tryz.prog w = .ok (.enter 73 args) w := enters_of Tryz.func73 (by kernel_rfl) rfl
set_option maxRecDepth 100000 in
set_option maxHeartbeats 2000000 in
theorem rtWithin_zero : RtAsk 0 := by
  intro e B W v he hm hB hv
  obtain ⟨x0, x1, x2, Y, xn, xc, x4, rfl⟩ := hv.form
  rw [show goodF 0 e = false from by cases e; rfl]
  show Calls Tryz.prog 126 #[_, .int .i64 200] W _
  have hb1 := belowAlloc W (.cells #[.int .i64 x0, .string x1, .int .i64 x2, .slice Y xn xc, .int .i64 x4] 42)
  have hb2 := belowAlloc (W.alloc (.cells #[.int .i64 x0, .string x1, .int .i64 x2, .slice Y xn xc, .int .i64 x4] 42)) (.cells #[.int .i64 200] 3)
  have HB := Lib.hid (hb1.trans (hb2.mono hb1.size))
  clear he hm hB hv hb1 hb2
  go_enter Tryz.func126, Tryz.ntmps126
  go_wp2
  go_ret
  exact ⟨rfl, HB.out⟩
set_option maxRecDepth 100000 in
set_option maxHeartbeats 4000000 in
theorem rtWithin_succ {f : Nat} (hf : f + 1 ≤ 200) (ih : RtAsk f) : RtAsk (f + 1) := by
  intro e B W v he hm hB hv
  cases he with
  | @mk op n p s l hs hl hml =>
  have hv0 := hv
  rw [RepE] at hv
  obtain ⟨A, cc, rfl, _, _, hcs⟩ := hv
  rw [good_eq]
  obtain ⟨O, hO⟩ : ∃ O : Int, O = 200 - ((f + 1 : Nat) : Int) := ⟨_, rfl⟩
  rw [← hO]
  have hO0 : 0 ≤ O := by rw [hO]; omega
  have hO2 : O < 200 := by rw [hO]; omega
  obtain ⟨w1, hw1⟩ : ∃ V, V = W.alloc (.cells #[.int .i64 op, .string s, .int .i64 n, .slice A l.length cc, .int .i64 p] 42) := ⟨_, rfl⟩
  have hb1 : Below W.heap.size W w1 := by rw [hw1]; exact belowAlloc W _
  have hE1 : Blk w1 W.heap.size 42 [.int .i64 op, .string s, .int .i64 n, .slice A l.length cc, .int .i64 p] := by rw [hw1]; exact heap_alloc_new W _
  have hz1 : w1.heap.size = W.heap.size + 1 := by rw [hw1]; simp
  obtain ⟨w2, hw2⟩ : ∃ V, V = w1.alloc (.cells #[.int .i64 O] 3) := ⟨_, rfl⟩
  have hb2 : Below w1.heap.size w1 w2 := by rw [hw2]; exact belowAlloc w1 _
  have hE2 : Blk w2 w1.heap.size 3 [.int .i64 O] := by rw [hw2]; exact heap_alloc_new w1 _
  have hz2 : w2.heap.size = w1.heap.size + 1 := by rw [hw2]; simp
  have hbW : Below W.heap.size W w2 := hb1.trans (hb2.mono hb1.size)
  have hF2 : Blk w2 W.heap.size 42 [.int .i64 op, .string s, .int .i64 n, .slice A l.length cc, .int .i64 p] := Blk.below hE1 hb2 (Blk.lt hE1)
  have HM := Lib.hid (mayHave_any op l.length w2)
  have HSY := Lib.hid (saysRight_any op n p s A l.length cc w2 (hm.under hbW) hs)
  unfold SaysTells at HSY
  have HAL : Hid (∀ w3, Below w2.heap.size w2 w3 → Calls Tryz.prog 72 #[.slice A l.length cc, .func (.func 156) #[] #[.pointer (some ⟨w1.heap.size, 0, none⟩)]] w3 fun e w' => e = .returned (.bool (l.all (goodF f))) ∧ Below w3.heap.size w3 w') := Lib.hid (fun w3 hb3 => by
    have hW3 : Below W.heap.size W w3 := hbW.trans (hb3.mono hbW.size)
    have hB3 : B ≤ w3.heap.size := Nat.le_trans hB hW3.size
    have hk3 : w3.cell? ⟨w1.heap.size, 0, none⟩ = some (.int .i64 O) := (Blk.below hE2 hb3 (Blk.lt hE2)).cell 0
    have hkl : w1.heap.size < w3.heap.size := Nat.lt_of_lt_of_le (by omega) hb3.size
    refine allEP_any (B := B) eg_rtClosure hB3 hl (fun x hx V v hV hxv => ?_) (fun hne => ?_)
    · exact rtClosure hf ih (hml x hx) ((hm.under hW3).under hV) (Nat.le_trans hB3 hV.size) hxv (Nat.lt_of_lt_of_le hkl hV.size) (by rw [← hO]; exact (hV.cell (p := ⟨w1.heap.size, 0, none⟩) hkl).trans hk3)
    · obtain ⟨g, o, e1, hg, hgl, hre⟩ := hcs hne
      exact ⟨g, o, e1, hg, Nat.lt_of_lt_of_le hg hB3, repEs_keeps (S := fun k => k < B) (T := fun k => k < B) (Keeps.below (hW3.mono hB) (fun _ h _ => h)) (fun _ h _ => h) hg hgl _ _ hre⟩)
  obtain ⟨L, hL⟩ : ∃ L, L = l.length := ⟨_, rfl⟩
  obtain ⟨MB, hMB⟩ : ∃ X, X = mayB op l.length := ⟨_, rfl⟩
  obtain ⟨SB, hSB⟩ : ∃ X, X = saysB op s n := ⟨_, rfl⟩
  obtain ⟨AB, hAB⟩ : ∃ X, X = l.all (goodF f) := ⟨_, rfl⟩
  rw [← hMB] at HM ⊢
  rw [← hSB] at HSY ⊢
  rw [← hAB] at HAL ⊢
  rw [← hL] at HM HSY HAL hF2 hw1 ⊢
  obtain ⟨c0, c1, c2, c3, c4⟩ := cells5 hF2
  have d0 : w2.cell? ⟨w1.heap.size, 0, none⟩ = some (.int .i64 O) := hE2.cell 0
  have HF2 := Lib.hid hF2
  have HBW := Lib.hid hbW
  have HW2 : Hid (w2 = (W.alloc (.cells #[.int .i64 op, .string s, .int .i64 n, .slice A L cc, .int .i64 p] 42)).alloc (.cells #[.int .i64 O] 3)) := Lib.hid (by rw [hw2, hw1])
  have hmf : ∀ (fn : Fn) (first cap : Array Value) (w : World), (Instr.makeFunc fn first cap).run Tryz.prog w = .ok (.func fn first cap) w := fun _ _ _ _ => rfl
  have HWL : Hid (W.heap.size < w2.heap.size) := Lib.hid (by omega)
  rw [hz1] at d0 HAL
  have k0 := c0; have k3 := c3; have k1 := c1; have k2 := c2; have k4 := c4; have kd := d0
  rw [HW2.out] at k0 k1 k2 k3 k4 kd
  clear ih hs hl hml hm hB hv0 hcs hO hw1 hb1 hE1 hz1 hw2 hb2 hE2 hz2 hbW hF2 hL hMB hSB hAB hf
  cases MB with
  | false =>
    go_enter Tryz.func126, Tryz.ntmps126
    go_wp2_with fail
    rw [← HW2.out]
    (with_reducible refine HM.out.mono ?_)
    rintro e' w3 ⟨rfl, rfl⟩
    go_wp2
    go_ret
    exact ⟨rfl, HBW.out⟩
  | true =>
    go_enter Tryz.func126, Tryz.ntmps126
    go_wp2_with fail
    rw [← HW2.out]
    (with_reducible refine HM.out.mono ?_)
    rintro e' w3 ⟨rfl, rfl⟩
    clear k0 k1 k2 k3 k4 kd
    go_wp2_with fail
    (with_reducible refine HSY.out.mono ?_)
    rintro e' w3 ⟨rfl, hb3⟩
    have HB3 := Lib.hid hb3
    have hF3 := Blk.below HF2.out hb3 HWL.out
    obtain ⟨q0, q1, q2, q3, q4⟩ := cells5 hF3
    have HC := Lib.hid (HAL.out w3 hb3)
    have HB4 := Lib.hid (HBW.out.trans (hb3.mono HBW.out.size))
    clear hb3 hF3 c0 c1 c2 c3 c4 d0
    cases SB with
    | false =>
      go_wp2
      go_ret
      exact ⟨rfl, HB4.out⟩
    | true =>
      go_wp2_with fail
      (with_reducible refine HC.out.mono ?_)
      rintro e' w4 ⟨rfl, hb4⟩
      have HB5 := Lib.hid (HB4.out.trans (hb4.mono HB4.out.size))
      clear hb4
      go_wp2
      go_ret
      exact ⟨rfl, HB5.out⟩
theorem rtWithin_any : ∀ f, f ≤ 200 → RtAsk f
  | 0, _ => rtWithin_zero
  | f + 1, h => rtWithin_succ h (rtWithin_any f (by omega))
set_option maxRecDepth 100000 in
set_option maxHeartbeats 2000000 in
theorem rightExpr_any {e : Ex} {B : Nat} {W : World} {v : Value} (he : MildE e) (hm : Marks W) (hB : B ≤ W.heap.size) (hv : RepE W (fun k => k < B) e v) :
    Calls Tryz.prog 73 #[v] W fun e' w' => e' = .returned (.bool (goodF 200 e)) ∧ Below W.heap.size W w' := by
  obtain ⟨x0, x1, x2, Y, xn, xc, x4, rfl⟩ := hv.form
  obtain ⟨w1, hw1⟩ : ∃ V, V = W.alloc (.cells #[.int .i64 x0, .string x1, .int .i64 x2, .slice Y xn xc, .int .i64 x4] 42) := ⟨_, rfl⟩
  have hb1 : Below W.heap.size W w1 := by rw [hw1]; exact belowAlloc W _
  have hE1 : Blk w1 W.heap.size 42 [.int .i64 x0, .string x1, .int .i64 x2, .slice Y xn xc, .int .i64 x4] := by rw [hw1]; exact heap_alloc_new W _
  have HC : Hid (Calls Tryz.prog 126 #[.agg #[.int .i64 x0, .string x1, .int .i64 x2, .slice Y xn xc, .int .i64 x4], .int .i64 0] w1 fun e' w' => e' = .returned (.bool (goodF 200 e)) ∧ Below w1.heap.size w1 w') := Lib.hid (rtWithin_any 200 (Nat.le_refl _) e B w1 _ he (hm.under hb1) (Nat.le_trans hB hb1.size) (RepE.keeps (S := fun k => k < B) (T := fun k => k < B) (Keeps.below (hb1.mono hB) (fun _ h _ => h)) (fun _ h _ => h) _ _ hv))
  obtain ⟨X, hX⟩ : ∃ X, X = goodF 200 e := ⟨_, rfl⟩
  rw [← hX] at HC ⊢
  obtain ⟨c0, c1, c2, c3, c4⟩ := cells5 hE1
  have HB1 := Lib.hid hb1
  have HW1 := Lib.hid hw1
  rw [hw1] at c0 c1 c2 c3 c4
  clear he hm hB hv hX hb1 hE1 hw1
  go_enter Tryz.func73, Tryz.ntmps73
  go_wp2_with fail
  rw [← HW1.out]
  (with_reducible refine HC.out.mono ?_)
  rintro e' w2 ⟨rfl, hb2⟩
  have HB2 := Lib.hid (HB1.out.trans (hb2.mono HB1.out.size))
  clear hb2
  go_wp2
  go_ret
  exact ⟨rfl, HB2.out⟩
end Go.Proofs.YtcjfealalokjaaaGreatDoor
namespace Go.Proofs.YtcjfealalokjaaaGreatDoor
open Go Go.RowKit
/-- Is a rule right? -/
def goodR (x : RuleM) : Bool := decide (x.scopes.length ≤ 16) && (x.scopes.all (fun s => (quoteN (strL s)).2) && (decide (x.whens.length ≤ 1) && x.whens.all (goodF 200)))
/-- A rule of texts that may be held. -/
structure HeldR (x : RuleM) : Prop where
  scopes : x.scopes.length ≤ 1000000
  sizes : ∀ t ∈ x.scopes, t.size ≤ 1000000000
  whens : x.whens.length ≤ 1000000
  mild : ∀ e ∈ x.whens, MildE e
set_option maxRecDepth 100000 in
set_option maxHeartbeats 4000000 in
theorem rightRule_any {x : RuleM} {B : Nat} {W : World} {v : Value} (hx : HeldR x) (hm : Marks W) (hB : B ≤ W.heap.size) (hv : RepR W (fun k => k < B) x v) :
    Calls Tryz.prog 39 #[v] W fun e' w' => e' = .returned (.bool (goodR x)) ∧ Below W.heap.size W w' := by
  obtain ⟨d, sc, ws, ps⟩ := x
  obtain ⟨m1, m2, m3, m4⟩ := hx
  obtain ⟨vs, vw, rfl, ⟨SA, cs, rfl, hsl, hsc⟩, ⟨AW, cw, rfl, hwl, hwc⟩⟩ := hv
  obtain ⟨w1, hw1⟩ : ∃ V, V = W.alloc (.cells #[.bool d, .slice SA sc.length cs, .slice AW ws.length cw, .int .i64 ps] 45) := ⟨_, rfl⟩
  have hb1 : Below W.heap.size W w1 := by rw [hw1]; exact belowAlloc W _
  have hE1 : Blk w1 W.heap.size 45 [.bool d, .slice SA sc.length cs, .slice AW ws.length cw, .int .i64 ps] := by rw [hw1]; exact heap_alloc_new W _
  have HS : Hid (Calls Tryz.prog 70 #[.slice SA sc.length cs, .func (.func 71) #[] #[]] w1 fun e w' => e = .returned (.bool (sc.all fun s => (quoteN (strL s)).2)) ∧ Below w1.heap.size w1 w') := Lib.hid (allS_any m1 m2 (hm.under hb1) (fun hne => by
    obtain ⟨g, o, e1, hg, hgl, hcs⟩ := hsc hne
    refine ⟨g, o, e1, Nat.lt_of_lt_of_le hgl hb1.size, fun i hi => ?_⟩
    obtain ⟨t, h1, h2, h3⟩ := hcs i hi
    exact ⟨t, h1, h2, (hb1.cell (p := ⟨g, o + i, none⟩) hgl).trans h3⟩))
  have HE : Hid (∀ w2, Below w1.heap.size w1 w2 → Calls Tryz.prog 72 #[.slice AW ws.length cw, .func (.func 73) #[] #[]] w2 fun e w' => e = .returned (.bool (ws.all (goodF 200))) ∧ Below w2.heap.size w2 w') := Lib.hid (fun w2 hb2 => by
    have hW2 : Below W.heap.size W w2 := hb1.trans (hb2.mono hb1.size)
    have hB2 : B ≤ w2.heap.size := Nat.le_trans hB hW2.size
    refine allE_any (B := B) eg_rtExpr hB2 m3 (fun x hx V v hV hxv => ?_) (fun hne => ?_)
    · exact rightExpr_any (m4 x hx) ((hm.under hW2).under hV) (Nat.le_trans hB2 hV.size) hxv
    · obtain ⟨g, o, e1, hg, hgl, hre⟩ := hwc hne
      exact ⟨g, o, e1, hg, Nat.lt_of_lt_of_le hg hB2, repEs_keeps (S := fun k => k < B) (T := fun k => k < B) (Keeps.below (hW2.mono hB) (fun _ h _ => h)) (fun _ h _ => h) hg hgl _ _ hre⟩)
  unfold goodR
  show Calls _ _ _ _ fun e' w' => e' = .returned (.bool (decide (sc.length ≤ 16) && (sc.all (fun s => (quoteN (strL s)).2) && (decide (ws.length ≤ 1) && ws.all (goodF 200))))) ∧ _
  obtain ⟨SB, hSB⟩ : ∃ X, X = sc.all fun s => (quoteN (strL s)).2 := ⟨_, rfl⟩
  obtain ⟨EB, hEB⟩ : ∃ X, X = ws.all (goodF 200) := ⟨_, rfl⟩
  rw [← hSB] at HS ⊢
  rw [← hEB] at HE ⊢
  obtain ⟨L, hL⟩ : ∃ L, L = sc.length := ⟨_, rfl⟩
  obtain ⟨M, hM⟩ : ∃ L, L = ws.length := ⟨_, rfl⟩
  rw [← hL] at HS hE1 hw1 m1 ⊢
  rw [← hM] at HE hE1 hw1 m3 ⊢
  obtain ⟨c0, c1, c2, c3⟩ := cells4 hE1
  have HE1 := Lib.hid hE1
  have HB1 := Lib.hid hb1
  have HW1 := Lib.hid hw1
  rw [hw1] at c0 c1 c2 c3
  clear m2 m4 hm hB hsl hsc hwl hwc hSB hEB hL hM hE1 hb1 hw1
  by_cases h16 : L ≤ 16
  · have hi : (L : Int) ≤ 16 := by omega
    rw [decide_eq_true h16, Bool.true_and]
    clear h16
    cases SB with
    | false =>
      go_enter Tryz.func39, Tryz.ntmps39
      go_wp2_with fail
      rw [← HW1.out]
      (with_reducible refine HS.out.mono ?_)
      rintro e' w2 ⟨rfl, hb2⟩
      have HB2 := Lib.hid (HB1.out.trans (hb2.mono HB1.out.size))
      clear hb2 c0 c1 c2 c3
      go_wp2
      go_ret
      exact ⟨rfl, HB2.out⟩
    | true =>
      by_cases h1 : M ≤ 1
      · have hj : (M : Int) ≤ 1 := by omega
        rw [decide_eq_true h1, Bool.true_and, Bool.true_and]
        clear h1
        go_enter Tryz.func39, Tryz.ntmps39
        go_wp2_with fail
        rw [← HW1.out]
        (with_reducible refine HS.out.mono ?_)
        rintro e' w2 ⟨rfl, hb2⟩
        have HB2 := Lib.hid (HB1.out.trans (hb2.mono HB1.out.size))
        have HC := Lib.hid (HE.out w2 hb2)
        have hE2 := Blk.below HE1.out hb2 (Blk.lt HE1.out)
        clear hb2 c0 c1 c2 c3
        obtain ⟨c0, c1, c2, c3⟩ := cells4 hE2
        clear hE2
        go_wp2_with fail
        (with_reducible refine HC.out.mono ?_)
        rintro e' w3 ⟨rfl, hb3⟩
        have HB3 := Lib.hid (HB2.out.trans (hb3.mono HB2.out.size))
        clear hb3 c0 c1 c2 c3
        go_wp2
        go_ret
        exact ⟨rfl, HB3.out⟩
      · have hj : ¬ (M : Int) ≤ 1 := by omega
        rw [decide_eq_false h1, Bool.false_and, Bool.true_and]
        clear h1
        go_enter Tryz.func39, Tryz.ntmps39
        go_wp2_with fail
        rw [← HW1.out]
        (with_reducible refine HS.out.mono ?_)
        rintro e' w2 ⟨rfl, hb2⟩
        have HB2 := Lib.hid (HB1.out.trans (hb2.mono HB1.out.size))
        have hE2 := Blk.below HE1.out hb2 (Blk.lt HE1.out)
        clear hb2 c0 c1 c2 c3
        obtain ⟨c0, c1, c2, c3⟩ := cells4 hE2
        clear hE2
        go_wp2
        go_ret
        exact ⟨rfl, HB2.out⟩
  · have hi : ¬ (L : Int) ≤ 16 := by omega
    rw [decide_eq_false h16, Bool.false_and]
    clear h16
    rw [HW1.out] at HB1
    go_enter Tryz.func39, Tryz.ntmps39
    go_wp2
    go_ret
    exact ⟨rfl, HB1.out⟩
end Go.Proofs.YtcjfealalokjaaaGreatDoor
namespace Go.Proofs.YtcjfealalokjaaaGreatDoor
open Go Go.RowKit
theorem eg_rightRule : ∀ args w, (callFunc 39 args).run Tryz.prog w = .ok (.enter 39 args) w := enters_of Tryz.func39 (by kernel_rfl) rfl
/-- Is a policy right? -/
def rightP (l : List RuleM) : Bool := decide (l.length ≤ 16) && l.all goodR
set_option maxRecDepth 100000 in
set_option maxHeartbeats 4000000 in
theorem allR_any {B : Nat} {l : List RuleM} {A : Option Addr} {c : Nat} {w : World} (hm : Marks w) (hB : B ≤ w.heap.size) (hl : l.length ≤ 1000000) (hx : ∀ x ∈ l, HeldR x)
    (hr : l ≠ [] → ∃ g o, A = some ⟨g, o, none⟩ ∧ g < B ∧ g < w.heap.size ∧ RepRs w (fun k => k < B) g o l) :
    Calls Tryz.prog 38 #[.slice A l.length c, .func (.func 39) #[] #[]] w fun e w' => e = .returned (.bool (l.all goodR)) ∧ Below w.heap.size w w' := by
  have HX := Lib.hid hx
  have HM := Lib.hid hm
  have HRE := Lib.hid hr
  have HBW := Lib.hid hB
  have eg := eg_rightRule
  obtain ⟨n, hn⟩ : ∃ n, n = l.length := ⟨_, rfl⟩
  have HN := Lib.hid hn
  rw [← hn] at hl ⊢
  obtain ⟨R, hR⟩ : ∃ R, R = l.all goodR := ⟨_, rfl⟩
  have HR := Lib.hid hR
  rw [← hR]
  clear hx hr hn hR hB hm
  go_enter Tryz.func38, Tryz.ntmps38
  go_wp2
  go_loopw [9] (fun v wr => ∃ i : Nat, i ≤ n ∧ v = .int .i64 (i : Int) ∧ Below w.heap.size w wr ∧ (l.take i).all goodR = true) (fun v _ => n - (intOf v).toNat)
  case atStart => exact ⟨0, Nat.zero_le _, rfl, Below.refl _ _, by simp⟩
  case round =>
    obtain ⟨i, hi, rfl, hb, ha⟩ := hrel
    have HB := Lib.hid hb
    have HA := Lib.hid ha
    clear ha
    by_cases hlt : i < n
    · have hil : i < l.length := by rw [← HN.out]; exact hlt
      have hbB := hb.mono HBW.out
      obtain ⟨g, o, rfl, hg, _, hre⟩ := HRE.out (fun e => by rw [e] at hil; exact absurd hil (Nat.not_lt_zero _))
      obtain ⟨a0, a1, a2, a3, hrx, k0, k1, k2, k3⟩ := hre i hil
      have HRX := Lib.hid hrx
      obtain ⟨vs, vw, e, ⟨AS, cs, rfl, _⟩, ⟨AW, cw, rfl, _⟩⟩ := hrx
      simp only [Value.agg.injEq, Array.mk.injEq, List.cons.injEq, and_true] at e
      obtain ⟨rfl, rfl, rfl, rfl⟩ := e
      obtain ⟨DN, hDN⟩ : ∃ d, d = l[i].deny := ⟨_, rfl⟩
      obtain ⟨PS, hPS⟩ : ∃ d, d = l[i].pos := ⟨_, rfl⟩
      obtain ⟨LS, hLS⟩ : ∃ d, d = l[i].scopes.length := ⟨_, rfl⟩
      obtain ⟨LW, hLW⟩ : ∃ d, d = l[i].whens.length := ⟨_, rfl⟩
      rw [← hDN, ← hPS, ← hLS, ← hLW] at HRX
      rw [← hDN] at k0
      rw [← hLS] at k1
      rw [← hLW] at k2
      rw [← hPS] at k3
      have q0 := (hbB.cell (p := ⟨g, o + i * 4, none⟩) hg).trans k0
      have q1 := (hbB.cell (p := ⟨g, o + i * 4 + 1, none⟩) hg).trans k1
      have q2 := (hbB.cell (p := ⟨g, o + i * 4 + 2, none⟩) hg).trans k2
      have q3 := (hbB.cell (p := ⟨g, o + i * 4 + 3, none⟩) hg).trans k3
      obtain ⟨v1, hv1⟩ : ∃ W, W = wr.alloc (.cells #[.bool DN, .slice AS LS cs, .slice AW LW cw, .int .i64 PS] 45) := ⟨_, rfl⟩
      have hbv : Below wr.heap.size wr v1 := by rw [hv1]; exact belowAlloc wr _
      have HBV : Hid (Below w.heap.size w v1) := Lib.hid (hb.trans (hbv.mono hb.size))
      have hrv := RepR.keeps (S := fun k => k < B) (T := fun k => k < B) (Keeps.below (HBV.out.mono HBW.out) (fun _ h _ => h)) (fun _ h _ => h) HRX.out
      have HC := Lib.hid (rightRule_any (HX.out l[i] (List.getElem_mem hil)) (HM.out.under HBV.out) (Nat.le_trans HBW.out HBV.out.size) hrv)
      have HV1 := Lib.hid hv1
      have hi1 : (i : Int) < (n : Int) := by omega
      have hi2 : (0 : Int) ≤ (i : Int) := by omega
      obtain ⟨X, hX⟩ : ∃ X, X = goodR l[i] := ⟨_, rfl⟩
      rw [← hX] at HC
      have HG := Lib.hid hX
      have HIL := Lib.hid hil
      clear hb hbB k0 k1 k2 k3 hX hre hrv hv1 hbv hDN hPS hLS hLW
      cases X with
      | true =>
        go_wp2_with fail
        rw [← HV1.out]
        (with_reducible refine HC.out.mono ?_)
        rintro e w3 ⟨rfl, hb3⟩
        have HB3 := Lib.hid hb3
        clear hb3 q0 q1 q2 q3
        go_wp2
        go_roundw
        case rel => exact ⟨i + 1, by omega, by go_num, HBV.out.trans (HB3.out.mono HBV.out.size), by rw [all_take_succ _ _ _ HIL.out, HA.out, ← HG.out]; rfl⟩
        case measure => simp [intOf]; omega
      | false =>
        go_wp2_with fail
        rw [← HV1.out]
        (with_reducible refine HC.out.mono ?_)
        rintro e w3 ⟨rfl, hb3⟩
        have HB3 := Lib.hid hb3
        clear hb3 q0 q1 q2 q3
        go_wp2
        go_ret
        exact ⟨by (rw [HR.out, all_take_false _ _ i HIL.out HG.out.symm]) <;> rfl, HBV.out.trans (HB3.out.mono HBV.out.size)⟩
    · obtain rfl : i = n := by omega
      have hi1 : ¬ (i : Int) < (i : Int) := by omega
      have hall : l.take i = l := List.take_of_length_le (by rw [HN.out]; exact Nat.le_refl _)
      have HAL : Hid (R = true) := Lib.hid (by have := HA.out; rw [hall] at this; rw [HR.out]; exact this)
      clear hb hall
      go_wp2
      go_ret
      exact ⟨by (rw [HAL.out]) <;> rfl, HB.out⟩
set_option maxRecDepth 100000 in
set_option maxHeartbeats 2000000 in
theorem right_any {B : Nat} {l : List RuleM} {w : World} {v : Value} (hm : Marks w) (hB : B ≤ w.heap.size) (hl : l.length ≤ 1000000) (hx : ∀ x ∈ l, HeldR x) (hv : RepP w (fun k => k < B) l v) :
    Calls Tryz.prog 18 #[v] w fun e w' => e = .returned (.bool (rightP l)) ∧ Below w.heap.size w w' := by
  obtain ⟨A, c, rfl, _, hr⟩ := hv
  have HC := Lib.hid (allR_any (c := c) hm hB hl hx (fun hne => by
    obtain ⟨g, o, e, h1, h2, h3⟩ := hr hne
    exact ⟨g, o, e, h1, h2, h3⟩))
  unfold rightP
  obtain ⟨X, hX⟩ : ∃ X, X = l.all goodR := ⟨_, rfl⟩
  rw [← hX] at HC ⊢
  obtain ⟨n, hn⟩ : ∃ n, n = l.length := ⟨_, rfl⟩
  rw [← hn] at HC hl ⊢
  clear hm hB hx hr hX hn
  by_cases h16 : n ≤ 16
  · have hi : (n : Int) ≤ 16 := by omega
    rw [decide_eq_true h16, Bool.true_and]
    clear h16
    go_enter Tryz.func18, Tryz.ntmps18
    go_wp2_with fail
    (with_reducible refine HC.out.mono ?_)
    rintro e' w2 ⟨rfl, hb2⟩
    have HB2 := Lib.hid hb2
    clear hb2
    go_wp2
    go_ret
    exact ⟨rfl, HB2.out⟩
  · have hi : ¬ (n : Int) ≤ 16 := by omega
    rw [decide_eq_false h16, Bool.false_and]
    clear h16
    go_enter Tryz.func18, Tryz.ntmps18
    go_wp2
    go_ret
    exact ⟨rfl, Below.refl _ _⟩
end Go.Proofs.YtcjfealalokjaaaGreatDoor
namespace Go.Proofs.YtcjfealalokjaaaGreatDoor
open Go Go.RowKit
set_option maxRecDepth 100000 in
set_option maxHeartbeats 2000000 in
theorem wblString_nil (B b : Nat) (p : Value) (w : World) (hbk : w.heap[b]? = some (.cells #[p, .slice none 0 0] 77 (0, 0))) :
    Calls Tryz.prog 35 #[.pointer (some ⟨b, 0, none⟩)] w fun e w' => e = .returned (.string ⟨#[]⟩) ∧ Below B w w' := by
  have hUS : ∀ (W : World) (q : Option Addr), (Builtin.unsafeString_ #[126, 3] 9 #[.pointer q, .int .i64 0]).run Tryz.prog W = .ok (.string .empty) W := fun W q => Lib.run_unsafeString_none W _ _ _ q
  have c1 : w.drew.cell? ⟨b, 1, none⟩ = some (.slice none 0 0) := by
    have : w.drew.heap[b]? = some (.cells #[p, .slice none 0 0] 77 (0, 0)) := hbk
    rw [Lib.cell_of_heap this]; rfl
  have hSD : (Builtin.unsafeSliceData_ #[73] 126 #[.slice none 0 0]).run Tryz.prog w.drew = .ok (.pointer none) w.drew := rfl
  go_enter Tryz.func35, Tryz.ntmps35
  go_wp2
  go_region
  all_goals (go_wp2; go_ret; exact ⟨rfl, Below.drew (Below.refl B w)⟩)
set_option maxRecDepth 100000 in
set_option maxHeartbeats 2000000 in
theorem wblString_room (B b g cap : Nat) (p : Value) (w : World) (hc0 : cap ≠ 0) (hbk : w.heap[b]? = some (.cells #[p, .slice (some ⟨g, 0, none⟩) 0 cap] 77 (0, 0))) :
    Calls Tryz.prog 35 #[.pointer (some ⟨b, 0, none⟩)] w fun e w' => e = .returned (.string ⟨#[]⟩) ∧ Below B w w' := by
  have hUS : ∀ (W : World) (q : Option Addr), (Builtin.unsafeString_ #[126, 3] 9 #[.pointer q, .int .i64 0]).run Tryz.prog W = .ok (.string .empty) W := fun W q => Lib.run_unsafeString_none W _ _ _ q
  have c1 : w.drew.cell? ⟨b, 1, none⟩ = some (.slice (some ⟨g, 0, none⟩) 0 cap) := by
    have : w.drew.heap[b]? = some (.cells #[p, .slice (some ⟨g, 0, none⟩) 0 cap] 77 (0, 0)) := hbk
    rw [Lib.cell_of_heap this]; rfl
  have hSD : (Builtin.unsafeSliceData_ #[73] 126 #[.slice (some ⟨g, 0, none⟩) 0 cap]).run Tryz.prog w.drew = .ok (.pointer (some ⟨g, 0, none⟩)) w.drew :=
    Lib.run_unsafeSliceData_row _ _ _ _ _ _ hc0
  clear hc0
  go_enter Tryz.func35, Tryz.ntmps35
  go_wp2
  go_region
  all_goals (go_wp2; go_ret; exact ⟨rfl, Below.drew (Below.refl B w)⟩)
set_option maxRecDepth 100000 in
set_option maxHeartbeats 2000000 in
theorem wblString_noroom (B b g : Nat) (p : Value) (cur : Array Value) (w : World) (hBw : B ≤ w.heap.size) (hbk : w.heap[b]? = some (.cells #[p, .slice (some ⟨g, 0, none⟩) 0 0] 77 (0, 0))) (hg : w.heap[g]? = some (.cells cur 5 (0, 0))) :
    Calls Tryz.prog 35 #[.pointer (some ⟨b, 0, none⟩)] w fun e w' => e = .returned (.string ⟨#[]⟩) ∧ Below B w w' := by
  have hUS : ∀ (W : World) (q : Option Addr), (Builtin.unsafeString_ #[126, 3] 9 #[.pointer q, .int .i64 0]).run Tryz.prog W = .ok (.string .empty) W := fun W q => Lib.run_unsafeString_none W _ _ _ q
  have hlt : b < w.heap.size := by
    rcases Nat.lt_or_ge b w.heap.size with h' | h'
    · exact h'
    · simp [Array.getElem?_eq_none h'] at hbk
  have c1 : w.drew.cell? ⟨b, 1, none⟩ = some (.slice (some ⟨g, 0, none⟩) 0 0) := by
    have : w.drew.heap[b]? = some (.cells #[p, .slice (some ⟨g, 0, none⟩) 0 0] 77 (0, 0)) := hbk
    rw [Lib.cell_of_heap this]; rfl
  have hSD : (Builtin.unsafeSliceData_ #[73] 126 #[.slice (some ⟨g, 0, none⟩) 0 0]).run Tryz.prog w.drew = .ok (.pointer (some ⟨w.drew.heap.size, 0, none⟩)) (w.drew.alloc (.view ⟨g, 0, none⟩ 5)) :=
    Lib.run_unsafeSliceData_zero w.drew _ _ 5 Tryz.underlying126 ⟨g, 0, none⟩ 0 (5, cur.size) (by have hg' : w.drew.heap[g]? = some (.cells cur 5 (0, 0)) := hg; simp [World.shape?, hg'])
  have c2 : (w.drew.alloc (.view ⟨g, 0, none⟩ 5)).cell? ⟨b, 1, none⟩ = some (.slice (some ⟨g, 0, none⟩) 0 0) := by
    have : (w.drew.alloc (.view ⟨g, 0, none⟩ 5)).heap[b]? = _ := (Lib.alloc_old w.drew _ b hlt).trans hbk
    rw [Lib.cell_of_heap this]; rfl
  have c3 : (w.alloc (.view ⟨g, 0, none⟩ 5)).drew.cell? ⟨b, 1, none⟩ = some (.slice (some ⟨g, 0, none⟩) 0 0) := c2
  have c0 : w.cell? ⟨b, 1, none⟩ = some (.slice (some ⟨g, 0, none⟩) 0 0) := c1
  go_enter Tryz.func35, Tryz.ntmps35
  go_wp2
  go_region
  all_goals (go_wp2; go_ret; exact ⟨rfl, (Below.drew (Below.refl B w)).alloc hBw _⟩)
/-- The text that is written, none too. -/
theorem wblString_any (B b : Nat) (l : List Int) (w : World) (hl : Bytes l) (h : IsWbl B b (ints .u8 l) w) (hBw : B ≤ w.heap.size) :
    Calls Tryz.prog 35 #[.pointer (some ⟨b, 0, none⟩)] w fun e w' => e = .returned (.string (toS l)) ∧ Below B w w' := by
  by_cases hn : l = []
  · subst hn
    obtain ⟨p, hB, v, hbk, hown, hne⟩ : ∃ p, Lib.BuilderAt 77 5 B b p [] w := by
      rcases h with h | h
      · exact ⟨_, h⟩
      · exact ⟨_, h⟩
    show Calls _ _ _ _ fun e w' => e = .returned (.string ⟨#[]⟩) ∧ Below B w w'
    rcases hown.2 with ⟨rfl, _⟩ | ⟨g, cap, cur, rfl, hbg, hg, _, _, _, _⟩
    · exact wblString_nil B b p w hbk
    · by_cases hc0 : cap = 0
      · subst hc0
        exact wblString_noroom B b g p cur w hBw hbk hg
      · exact wblString_room B b g cap p w hc0 hbk
  · exact wblString B b l w hl h hn
theorem heldR_mild {x : RuleM} (h : HeldR x) (hg : goodR x = true) : MildR 200 x := by
  unfold goodR at hg
  rw [Bool.and_eq_true, Bool.and_eq_true, Bool.and_eq_true] at hg
  exact ⟨h.scopes, h.sizes, of_decide_eq_true hg.2.2.1, fun e he => List.all_eq_true.1 hg.2.2.2 e he, h.mild⟩
/-- What Print tells. -/
def PrTells (l : List RuleM) (w : World) (e : Ending) (w' : World) : Prop :=
  e = .returned (.tuple #[.string (if rightP l = true then toS (printL 200 l) else ⟨#[]⟩), if rightP l = true then .nilIface else .iface 63 (.int .i64 1)]) ∧ Below w.heap.size w w'
set_option maxRecDepth 100000 in
set_option maxHeartbeats 4000000 in
theorem polPrint_any {B : Nat} {l : List RuleM} {w : World} {v : Value} (hm : Marks w) (hB : B ≤ w.heap.size) (hl : l.length ≤ 1000000) (hx : ∀ x ∈ l, HeldR x) (hv : RepP w (fun k => k < B) l v) (hby : rightP l = true → Bytes (printL 200 l)) (hlen : rightP l = true → (printL 200 l).length ≤ 140737488355328) :
    Calls Tryz.prog 16 #[v] w (PrTells l w) := by
  have HR := Lib.hid (right_any hm hB hl hx hv)
  unfold PrTells
  cases hr : rightP l with
  | false =>
    rw [hr] at HR
    rw [if_neg (by decide), if_neg (by decide)]
    obtain ⟨A, c, rfl, _, _⟩ := hv
    clear hm hB hl hx hby hlen hr
    go_enter Tryz.func16, Tryz.ntmps16
    go_wp2_with fail
    (with_reducible refine HR.out.mono ?_)
    rintro e w2 ⟨rfl, hb2⟩
    have HB2 := Lib.hid hb2
    clear hb2
    go_wp2
    go_ret2
    exact ⟨rfl, HB2.out⟩
  | true =>
    rw [hr] at HR
    rw [if_pos rfl, if_pos rfl]
    have HM := Lib.hid hm
    have HBW := Lib.hid hB
    have HV := Lib.hid hv
    have HL := Lib.hid hl
    have HXX : Hid (∀ x ∈ l, MildR 200 x) := Lib.hid (fun x hxl => by
      refine heldR_mild (hx x hxl) ?_
      unfold rightP at hr
      rw [Bool.and_eq_true] at hr
      exact List.all_eq_true.1 hr.2 x hxl)
    have HBY := Lib.hid (hby hr)
    have HLE := Lib.hid (hlen hr)
    obtain ⟨A, c, rfl, _, _⟩ := hv
    obtain ⟨n, hn⟩ : ∃ n, n = l.length := ⟨_, rfl⟩
    rw [← hn] at HR HV ⊢
    obtain ⟨T, hT⟩ : ∃ T, T = toS (printL 200 l) := ⟨_, rfl⟩
    rw [← hT]
    have HT := Lib.hid hT
    clear hT
    clear hm hB hl hx hby hlen hr hn
    go_enter Tryz.func16, Tryz.ntmps16
    go_wp2_with fail
    (with_reducible refine HR.out.mono ?_)
    rintro e w2 ⟨rfl, hb2⟩
    have HB2 := Lib.hid hb2
    have hml : 2 < w2.heap.size := Nat.lt_of_lt_of_le (Blk.lt HM.out) hb2.size
    have hm2 : Marks w2 := HM.out.under hb2
    obtain ⟨w3, hw3⟩ : ∃ W, W = w2.alloc (.cells #[.pointer none, .slice none 0 0] 77) := ⟨_, rfl⟩
    have hb3 : Below w2.heap.size w2 w3 := by rw [hw3]; exact belowAlloc w2 _
    have HI : Hid (WrI w2.heap.size w2.heap.size [] w3) := Lib.hid ⟨by rw [hw3]; exact wbl_new w2, hb3.size, hml, hm2.under hb3⟩
    have HRL := Lib.hid (rules_of HL.out HXX.out HI.out (RepP.keeps (S := fun k => k < B) (T := fun k => k < w2.heap.size) (Keeps.below ((hb2.trans (hb3.mono hb2.size)).mono HBW.out) (fun _ h _ => h)) (fun k h _ => Nat.lt_of_lt_of_le h (Nat.le_trans HBW.out hb2.size)) HV.out) (by have := HLE.out; simpa using this))
    have HB3 := Lib.hid (hb2.trans (hb3.mono hb2.size))
    have HW3 := Lib.hid hw3
    have HB23 := Lib.hid hb3
    clear hb2 hml hm2 hw3 hb3
    go_wp2_with fail
    rw [← HW3.out]
    (with_reducible refine HRL.out.mono ?_)
    rintro e w4 ⟨rfl, hi4, hb4, _⟩
    have HB4 := Lib.hid (HB3.out.trans (hb4.mono (by have := HB2.out.size; omega)))
    have HS := Lib.hid (wblString_any w2.heap.size w2.heap.size (printL 200 l) w4 HBY.out (by simpa using hi4) (Nat.le_trans HB23.out.size hb4.size))
    rw [← HT.out] at HS
    clear hi4 hb4
    go_wp2_with fail
    (with_reducible refine HS.out.mono ?_)
    rintro e w5 ⟨rfl, hb5⟩
    have HB5 := Lib.hid (HB4.out.trans (hb5.mono (by have := HB2.out.size; omega)))
    clear hb5
    go_wp2
    go_ret2
    exact ⟨rfl, HB5.out⟩
end Go.Proofs.YtcjfealalokjaaaGreatDoor
namespace Go.Proofs.YtcjfealalokjaaaGreatDoor
open Go Go.RowKit
/-- How many expressions are left to be looked at, of some (f: of what stands within). -/
def muchGo (f : List Ex → Int → Int) : List Ex → Int → Int
  | [], left => left
  | x :: r, left => if left < 0 then left else if 3000 < x.text.size then -1 else muchGo f r (f x.parts (left - 1 - (min x.text.size 5000 / 100 : Nat)))
/-- The same, d levels left. -/
def muchL : Nat → List Ex → Int → Int
  | 0, _, _ => -1
  | d + 1, l, left => muchGo (muchL d) l left
theorem muchGo_neg (f : List Ex → Int → Int) (l : List Ex) (left : Int) (h : left < 0) : muchGo f l left = left := by
  cases l with
  | nil => rfl
  | cons x r => rw [muchGo, if_pos h]
theorem cost_bd (n : Nat) : (min n 5000 / 100 : Nat) ≤ 50 := by omega
theorem muchGo_bd {f : List Ex → Int → Int} (hf : ∀ l left, -60 ≤ left → left ≤ 1500 → -60 ≤ f l left ∧ f l left ≤ max left 0) : ∀ (l : List Ex) (left : Int), -60 ≤ left → left ≤ 1500 → -60 ≤ muchGo f l left ∧ muchGo f l left ≤ max left 0
  | [], left, h0, h1 => by rw [muchGo]; omega
  | x :: r, left, h0, h1 => by
    rw [muchGo]
    by_cases h : left < 0
    · rw [if_pos h]; omega
    rw [if_neg h]
    by_cases h2 : 3000 < x.text.size
    · rw [if_pos h2]; omega
    rw [if_neg h2]
    have hc := cost_bd x.text.size
    obtain ⟨c, hcc⟩ : ∃ c : Nat, c = min x.text.size 5000 / 100 := ⟨_, rfl⟩
    rw [← hcc] at hc ⊢
    obtain ⟨a1, a2⟩ := hf x.parts (left - 1 - (c : Int)) (by omega) (by omega)
    obtain ⟨b1, b2⟩ := muchGo_bd hf r (f x.parts (left - 1 - (c : Int))) a1 (by omega)
    omega
theorem muchL_bd : ∀ (d : Nat) (l : List Ex) (left : Int), -60 ≤ left → left ≤ 1500 → -60 ≤ muchL d l left ∧ muchL d l left ≤ max left 0
  | 0, l, left, h0, h1 => by rw [muchL]; omega
  | d + 1, l, left, h0, h1 => by rw [muchL]; exact muchGo_bd (muchL_bd d) l left h0 h1
mutual
/-- How many expressions there are. -/
def nodesE : Ex → Nat
  | .mk _ _ _ l _ => 1 + nodesEs l
def nodesEs : List Ex → Nat
  | [] => 0
  | x :: r => nodesE x + nodesEs r
end
theorem nodesE_of (e : Ex) : nodesE e = 1 + nodesEs e.parts := by cases e; rw [nodesE]; rfl
theorem nodesEs_len : ∀ l : List Ex, l.length ≤ nodesEs l
  | [] => Nat.le_refl _
  | x :: r => by have := nodesEs_len r; rw [nodesEs, nodesE_of, List.length_cons]; omega
/-- Texts are no longer than 3000 bytes. -/
inductive Short : Ex → Prop
  | mk {op n p : Int} {s : ByteArray} {l : List Ex} : s.size ≤ 3000 → (∀ x ∈ l, Short x) → Short (.mk op s n l p)
theorem Short.parts {e : Ex} (h : Short e) : e.text.size ≤ 3000 ∧ ∀ x ∈ e.parts, Short x := by
  cases h with
  | mk h1 h2 => exact ⟨h1, h2⟩
theorem short_of {e : Ex} (h1 : e.text.size ≤ 3000) (h2 : ∀ x ∈ e.parts, Short x) : Short e := by
  cases e; exact .mk h1 h2
theorem muchGo_nodes {f : List Ex → Int → Int} (hb : ∀ l left, -60 ≤ left → left ≤ 1500 → -60 ≤ f l left ∧ f l left ≤ max left 0) (hf : ∀ l left, -60 ≤ left → left ≤ 1500 → 0 ≤ f l left → (∀ x ∈ l, Short x) ∧ (nodesEs l : Int) + f l left ≤ left) : ∀ (l : List Ex) (left : Int), -60 ≤ left → left ≤ 1500 → 0 ≤ muchGo f l left → (∀ x ∈ l, Short x) ∧ (nodesEs l : Int) + muchGo f l left ≤ left
  | [], left, h0, h1, h => by rw [muchGo, nodesEs] at *; exact ⟨(fun x hx => by cases hx), by omega⟩
  | x :: r, left, h0, h1, h => by
    rw [muchGo] at h ⊢
    by_cases hn : left < 0
    · rw [if_pos hn] at h; omega
    rw [if_neg hn] at h ⊢
    by_cases h2 : 3000 < x.text.size
    · rw [if_pos h2] at h; omega
    rw [if_neg h2] at h ⊢
    have hc := cost_bd x.text.size
    obtain ⟨c, hcc⟩ : ∃ c : Nat, c = min x.text.size 5000 / 100 := ⟨_, rfl⟩
    rw [← hcc] at hc h ⊢
    obtain ⟨a1, a2⟩ := hb x.parts (left - 1 - (c : Int)) (by omega) (by omega)
    obtain ⟨r1, r2⟩ := muchGo_nodes hb hf r _ a1 (by omega) h
    obtain ⟨q1, q2⟩ := muchGo_bd hb r _ a1 (by omega)
    have hf0 : 0 ≤ f x.parts (left - 1 - (c : Int)) := by
      rcases Int.lt_or_le (f x.parts (left - 1 - (c : Int))) 0 with hlt | hge
      · rw [muchGo_neg f r _ hlt] at h; omega
      · exact hge
    obtain ⟨p1, p2⟩ := hf x.parts (left - 1 - (c : Int)) (by omega) (by omega) hf0
    refine ⟨fun y hy => ?_, ?_⟩
    · rcases List.mem_cons.1 hy with rfl | hy
      · exact short_of (by omega) p1
      · exact r1 y hy
    · rw [nodesEs, nodesE_of]
      push_cast
      omega
theorem muchL_nodes : ∀ (d : Nat) (l : List Ex) (left : Int), -60 ≤ left → left ≤ 1500 → 0 ≤ muchL d l left → (∀ x ∈ l, Short x) ∧ (nodesEs l : Int) + muchL d l left ≤ left
  | 0, l, left, h0, h1, h => by rw [muchL] at h; omega
  | d + 1, l, left, h0, h1, h => by
    rw [muchL] at h ⊢
    exact muchGo_nodes (muchL_bd d) (muchL_nodes d) l left h0 h1 h
/-- Is a policy more than is looked at? -/
def greatGo : List RuleM → Int → Bool
  | [], _ => false
  | x :: r, left => if 40 < x.scopes.length then true else if x.scopes.any (fun s => decide (1000 < s.size)) = true then true else if muchL 250 x.whens left < 0 then true else greatGo r (muchL 250 x.whens left)
def greatP (l : List RuleM) : Bool := if 40 < l.length then true else greatGo l 1500
/-- A rule that is looked at. -/
structure LookR (x : RuleM) : Prop where
  scopes : x.scopes.length ≤ 40
  sizes : ∀ t ∈ x.scopes, t.size ≤ 1000
  short : ∀ e ∈ x.whens, Short e
  nodes : nodesEs x.whens ≤ 1500
theorem greatGo_look : ∀ (l : List RuleM) (left : Int), 0 ≤ left → left ≤ 1500 → greatGo l left = false → ∀ x ∈ l, LookR x
  | [], _, _, _, _, x, hx => by cases hx
  | y :: r, left, h0, h1, h, x, hx => by
    rw [greatGo] at h
    by_cases h2 : 40 < y.scopes.length
    · rw [if_pos h2] at h; cases h
    rw [if_neg h2] at h
    by_cases h3 : y.scopes.any (fun s => decide (1000 < s.size)) = true
    · rw [if_pos h3] at h; cases h
    rw [if_neg h3] at h
    by_cases h4 : muchL 250 y.whens left < 0
    · rw [if_pos h4] at h; cases h
    rw [if_neg h4] at h
    obtain ⟨m1, m2⟩ := muchL_nodes 250 y.whens left (by omega) h1 (by omega)
    obtain ⟨b1, b2⟩ := muchL_bd 250 y.whens left (by omega) h1
    rcases List.mem_cons.1 hx with rfl | hx
    · refine ⟨by omega, fun t ht => ?_, m1, by omega⟩
      rcases Nat.lt_or_ge 1000 t.size with hlt | hge
      · exact absurd (List.any_eq_true.2 ⟨t, ht, decide_eq_true hlt⟩) h3
      · exact hge
    · exact greatGo_look r _ (by omega) (by omega) h x hx
theorem greatP_look {l : List RuleM} (h : greatP l = false) : l.length ≤ 40 ∧ ∀ x ∈ l, LookR x := by
  unfold greatP at h
  by_cases h1 : 40 < l.length
  · rw [if_pos h1] at h; cases h
  · rw [if_neg h1] at h
    exact ⟨by omega, greatGo_look l 1500 (by omega) (by omega) h⟩
theorem nodes_mem {e : Ex} : ∀ {l : List Ex}, e ∈ l → nodesE e ≤ nodesEs l
  | x :: r, h => by
    rw [nodesEs]
    rcases List.mem_cons.1 h with rfl | h
    · omega
    · have := nodes_mem h; omega
theorem short_mild : ∀ e : Ex, Short e → nodesE e ≤ 1000000 → MildE e := fun e => by
  induction e using Ex.ind with
  | h op s n l p ih =>
    intro hs hn
    obtain ⟨h1, h2⟩ := hs.parts
    rw [nodesE] at hn
    have hl := nodesEs_len l
    exact .mk (Nat.le_trans h1 (by decide)) (by omega) fun x hx => ih x hx (h2 x hx) (by have := nodes_mem hx; omega)
theorem LookR.held {x : RuleM} (h : LookR x) : HeldR x :=
  ⟨Nat.le_trans h.scopes (by decide), fun t ht => Nat.le_trans (h.sizes t ht) (by decide), by have := nodesEs_len x.whens; have := h.nodes; omega, fun e he => short_mild e (h.short e he) (by have := nodes_mem he; have := h.nodes; omega)⟩
/-! ### How long texts are -/
/-- Bytes, so many at most. -/
def BL (k : Nat) (l : List Int) : Prop := Bytes l ∧ l.length ≤ k
theorem BL.app {a b : Nat} {l m : List Int} (h : BL a l) (g : BL b m) : BL (a + b) (l ++ m) := ⟨h.1.append g.1, by rw [List.length_append]; have := h.2; have := g.2; omega⟩
theorem BL.le {a b : Nat} {l : List Int} (h : BL a l) (hab : a ≤ b) : BL b l := ⟨h.1, Nat.le_trans h.2 hab⟩
theorem bl_lit (l : List Int) (h : (l.all fun x => decide (0 ≤ x ∧ x ≤ 255)) = true) : BL l.length l := ⟨.of_mem fun x hx => of_decide_eq_true (List.all_eq_true.1 h x hx), Nat.le_refl _⟩
theorem bl_quote (s : ByteArray) : BL (2 * s.size + 2) (quoteL s) := ⟨quoteN_bytes (strL_bd s), by have := quoteN_len (strL s); rw [length_strL] at this; exact this⟩
theorem bl_asked {op : Int} {a k : Nat} {x : List Int} (h : BL k x) : BL (k + 2) (askedL op a x) := by
  unfold askedL
  split
  · refine BL.le (a := 1 + (k + 1)) ((bl_lit [40] rfl).app (h.app (bl_lit [41] rfl))) (by omega)
  · exact h.le (by omega)
theorem getD_mem {l : List Ex} {i : Nat} (h : i < l.length) : l.getD i ex0 ∈ l := by
  rw [List.getD_eq_getElem?_getD, List.getElem?_eq_getElem h]; exact List.getElem_mem h
theorem bytes_none : Bytes [] := .of_mem (fun x hx => by cases hx)
/-- The sum of what items are. -/
theorem joinC_sum : ∀ {l : List Ex} {F : Ex → List Int}, (∀ x ∈ l, Bytes (F x) ∧ (F x).length + 8 ≤ 6100 * nodesE x) → BL (6100 * nodesEs l) (joinC (l.map F))
  | [], _, _ => ⟨bytes_none, by simp [joinC]⟩
  | [x], F, h => by
    obtain ⟨h1, h2⟩ := h x (by simp)
    refine ⟨h1, ?_⟩
    show (F x).length ≤ _
    rw [nodesEs, nodesEs]; omega
  | x :: y :: r, F, h => by
    obtain ⟨h1, h2⟩ := h x (by simp)
    have h3 := joinC_sum (l := y :: r) (F := F) (fun z hz => h z (List.mem_cons_of_mem _ hz))
    have h4 : BL ((F x).length + (2 + 6100 * nodesEs (y :: r))) (F x ++ ([44, 32] ++ joinC ((y :: r).map F))) := BL.app ⟨h1, Nat.le_refl _⟩ (BL.app (bl_lit [44, 32] rfl) h3)
    refine BL.le h4 ?_
    have : nodesEs (x :: y :: r) = nodesE x + nodesEs (y :: r) := by rw [nodesEs]
    rw [this]; omega
/-- A text of an expression without brackets around. -/
abbrev TB (e : Ex) (l : List Int) : Prop := Bytes l ∧ l.length + 10 ≤ 6100 * nodesE e
theorem tb_asked {e : Ex} {a : Nat} {x : List Int} (h : TB e x) : Bytes (askedL e.op a x) ∧ (askedL e.op a x).length + 8 ≤ 6100 * nodesE e := by
  have := bl_asked (op := e.op) (a := a) (k := x.length) ⟨h.1, Nat.le_refl _⟩
  exact ⟨this.1, by have h1 := this.2; have h2 := h.2; omega⟩
theorem nodes_two {l : List Ex} (h : 2 ≤ l.length) : nodesE (l.getD 0 ex0) + nodesE (l.getD 1 ex0) ≤ nodesEs l := by
  match l, h with
  | x :: y :: r, _ => show nodesE x + nodesE y ≤ _; rw [nodesEs, nodesEs]; omega
theorem nodes_drop {l : List Ex} (h : 1 ≤ l.length) : nodesE (l.getD 0 ex0) + nodesEs (l.drop 1) = nodesEs l := by
  match l, h with
  | x :: r, _ => show nodesE x + nodesEs r = _; rw [nodesEs]
theorem bare_tb : ∀ (f : Nat) (e : Ex), goodF f e = true → Short e → TB e (bareF f e)
  | 0, e, h, _ => by cases e; cases h
  | f + 1, .mk op s n l p, h, hs => by
    obtain ⟨s1, s2⟩ := hs.parts
    have s1 : s.size ≤ 3000 := s1
    have hq := bl_quote s
    have hn1 : nodesE (.mk op s n l p) = 1 + nodesEs l := by rw [nodesE]
    unfold TB
    rw [hn1]
    by_cases h5 : op ≤ 5
    · have hg := h
      rw [goodF] at hg
      rw [bareF]
      by_cases hr : op < 1 ∨ 14 < op
      · rw [if_pos hr] at hg; cases hg
      rw [if_neg hr, if_pos h5, Bool.and_eq_true] at hg
      by_cases o1 : op = 1
      · rw [if_pos o1]
        split
        · exact ⟨(bl_lit _ rfl).1, by show 4 + 10 ≤ _; omega⟩
        · exact ⟨(bl_lit _ rfl).1, by show 5 + 10 ≤ _; omega⟩
      rw [if_neg o1]
      by_cases o2 : op = 2
      · rw [if_pos o2]
        have hl := hg.2
        unfold leafG at hl
        rw [if_neg o1, if_pos o2, Bool.and_eq_true] at hl
        have := prL_bd (of_decide_eq_true hl.2)
        exact ⟨prL_bytes n, by omega⟩
      rw [if_neg o2]
      by_cases o3 : op = 3
      · rw [if_pos o3]; exact ⟨hq.1, by have := hq.2; show (quoteL s).length + 10 ≤ _; omega⟩
      rw [if_neg o3]
      by_cases o4 : op = 4
      · rw [if_pos o4]; exact ⟨strL_bd s, by rw [length_strL]; omega⟩
      rw [if_neg o4, if_pos (show op = 5 by omega)]
      have := (bl_lit [99, 108, 97, 105, 109, 40] rfl).app hq |>.app (bl_lit [41] rfl)
      refine ⟨this.1, ?_⟩
      have h2 := this.2
      show ([99, 108, 97, 105, 109, 40] ++ quoteL s ++ [41]).length + 10 ≤ _
      simp only [List.length_cons, List.length_nil] at h2
      omega
    · have hp := good_parts h5 h
      have hg := h
      rw [goodF] at hg
      by_cases hr : op < 1 ∨ 14 < op
      · rw [if_pos hr] at hg; cases hg
      rw [if_neg hr, if_neg h5] at hg
      have hcond : ¬ (n ≠ 0 ∨ s ≠ E0 ∨ (op = 6 ∧ l.length ≠ 1) ∨ (op ≠ 6 ∧ op ≠ 13 ∧ l.length ≠ 2) ∨ (op = 13 ∧ l.length < 2)) := fun hc => by rw [if_pos hc] at hg; cases hg
      have ht : ∀ x ∈ l, ∀ a, Bytes (askedL x.op a (bareF f x)) ∧ (askedL x.op a (bareF f x)).length + 8 ≤ 6100 * nodesE x := fun x hx a => tb_asked (bare_tb f x (hp x hx) (s2 x hx))
      rw [bareF]
      simp only
      rw [if_neg (by omega), if_neg (by omega), if_neg (by omega), if_neg (by omega), if_neg (by omega)]
      by_cases o6 : op = 6
      · rw [if_pos o6]
        have hl : l.length = 1 := Decidable.byContradiction fun hl => hcond (.inr (.inr (.inl ⟨o6, hl⟩)))
        have hm := getD_mem (l := l) (i := 0) (by omega)
        obtain ⟨t1, t2⟩ := ht _ hm 3
        have hnm := nodes_mem hm
        exact ⟨(bl_lit [110, 111, 116, 32] rfl).1.append t1, by rw [List.length_append]; show 4 + _ + 10 ≤ _; omega⟩
      rw [if_neg o6]
      have h2 : 2 ≤ l.length := Decidable.byContradiction fun hl => by
        by_cases o13 : op = 13
        · exact hcond (.inr (.inr (.inr (.inr ⟨o13, by omega⟩))))
        · exact hcond (.inr (.inr (.inr (.inl ⟨o6, o13, by omega⟩))))
      have hm0 := getD_mem (l := l) (i := 0) (by omega)
      have hm1 := getD_mem (l := l) (i := 1) (by omega)
      have hn2 := nodes_two h2
      have two : ∀ (a b : Nat) (x : List Int), BL 10 x → Bytes (askedL (l.getD 0 ex0).op a (bareF f (l.getD 0 ex0)) ++ (x ++ askedL (l.getD 1 ex0).op b (bareF f (l.getD 1 ex0)))) ∧ (askedL (l.getD 0 ex0).op a (bareF f (l.getD 0 ex0)) ++ (x ++ askedL (l.getD 1 ex0).op b (bareF f (l.getD 1 ex0)))).length + 10 ≤ 6100 * (1 + nodesEs l) := fun a b x hx => by
        obtain ⟨t1, t2⟩ := ht _ hm0 a
        obtain ⟨u1, u2⟩ := ht _ hm1 b
        refine ⟨t1.append (hx.1.append u1), ?_⟩
        rw [List.length_append, List.length_append]
        have := hx.2
        omega
      by_cases o7 : op = 7
      · rw [if_pos o7, List.append_assoc]; exact two 2 3 [32, 97, 110, 100, 32] ((bl_lit _ rfl).le (by decide))
      rw [if_neg o7]
      by_cases o8 : op = 8
      · rw [if_pos o8, List.append_assoc]; exact two 1 2 [32, 111, 114, 32] ((bl_lit _ rfl).le (by decide))
      rw [if_neg o8]
      by_cases o13 : op = 13
      · rw [if_pos o13]
        obtain ⟨t1, t2⟩ := ht _ hm0 5
        have hj := joinC_sum (l := l.drop 1) (F := fun e => askedL e.op 5 (bareF f e)) (fun x hx => ht x (List.mem_of_mem_drop hx) 5)
        have hnd := nodes_drop (l := l) (by omega)
        refine ⟨((t1.append (bl_lit [32, 105, 110, 32, 91] rfl).1).append hj.1).append (bl_lit [93] rfl).1, ?_⟩
        simp only [List.length_append, List.length_cons, List.length_nil] at *
        have := hj.2
        omega
      rw [if_neg o13]
      have hsg : BL 3 (signL op) := by
        unfold signL
        split; · exact (bl_lit _ rfl).le (by decide)
        split; · exact (bl_lit _ rfl).le (by decide)
        split; · exact (bl_lit _ rfl).le (by decide)
        split; · exact (bl_lit _ rfl).le (by decide)
        split; · exact (bl_lit _ rfl).le (by decide)
        exact ⟨bytes_none, by simp⟩
      have := two 5 5 ([32] ++ signL op ++ [32]) (BL.le (((bl_lit [32] rfl).app hsg).app (bl_lit [32] rfl)) (by decide))
      simpa [List.append_assoc] using this
theorem text_bl {f : Nat} {e : Ex} (hg : goodF f e = true) (hs : Short e) (a : Nat) : Bytes (textF f e a) ∧ (textF f e a).length + 8 ≤ 6100 * nodesE e := tb_asked (bare_tb f e hg hs)
theorem scopes_bl : ∀ {l : List ByteArray}, (∀ t ∈ l, t.size ≤ 1000) → BL (7 + l.length * 2010) (scopesL l)
  | [], _ => ⟨bytes_none, by simp [scopesL]⟩
  | s :: r, h => by
    have key : ∀ {r : List ByteArray}, (∀ t ∈ r, t.size ≤ 1000) → BL (r.length * 2010) (r.flatMap fun t => 44 :: 32 :: quoteL t) := fun {r} => by
      induction r with
      | nil => intro _; exact ⟨bytes_none, by simp⟩
      | cons t r ih =>
        intro h
        have h1 := ih (fun x hx => h x (List.mem_cons_of_mem _ hx))
        have h2 := h t (by simp)
        rw [List.flatMap_cons]
        exact BL.le (((bl_lit [44, 32] rfl).app (bl_quote t)).app h1) (by simp only [List.length_cons, List.length_nil]; omega)
    have h1 := key (r := r) (fun x hx => h x (List.mem_cons_of_mem _ hx))
    have h2 := h s (by simp)
    rw [scopesL]
    exact BL.le (((bl_lit [32, 115, 99, 111, 112, 101, 32] rfl).app (bl_quote s)).app h1) (by simp only [List.length_cons, List.length_nil]; omega)
theorem rule_bl {x : RuleM} (h : LookR x) (hg : ∀ e ∈ x.whens, goodF 200 e = true) : BL 10000000 (ruleL 200 x) := by
  have h1 := scopes_bl h.sizes
  have hsc := h.scopes
  have h2 : BL 9150100 (whenL 200 x.whens) := by
    cases hw : x.whens with
    | nil => exact ⟨bytes_none, by simp [whenL]⟩
    | cons e r =>
      have hm : e ∈ x.whens := by rw [hw]; simp
      obtain ⟨t1, t2⟩ := text_bl (hg e hm) (h.short e hm) 1
      have := nodes_mem hm
      have hn := h.nodes
      refine ⟨(bl_lit [32, 119, 104, 101, 110, 32] rfl).1.append t1, ?_⟩
      show ([32, 119, 104, 101, 110, 32] ++ textF 200 e 1).length ≤ _
      rw [List.length_append]
      show 6 + _ ≤ _
      omega
  have h3 : BL 6 (strL (headW x.deny)) := ⟨strL_bd _, by rw [length_strL]; cases x.deny <;> decide⟩
  unfold ruleL
  exact BL.le (((h3.app h1).app h2).app (bl_lit [59] rfl)) (by simp only [List.length_cons, List.length_nil]; omega)
theorem print_bl : ∀ {l : List RuleM}, (∀ x ∈ l, LookR x) → (∀ x ∈ l, ∀ e ∈ x.whens, goodF 200 e = true) → BL (l.length * 10000001) (printL 200 l)
  | [], _, _ => ⟨bytes_none, by simp [printL]⟩
  | x :: r, h, hg => by
    have key : ∀ {r : List RuleM}, (∀ x ∈ r, LookR x) → (∀ x ∈ r, ∀ e ∈ x.whens, goodF 200 e = true) → BL (r.length * 10000001) (r.flatMap fun y => 10 :: ruleL 200 y) := fun {r} => by
      induction r with
      | nil => intro _ _; exact ⟨bytes_none, by simp⟩
      | cons y r ih =>
        intro h hg
        have h1 := ih (fun x hx => h x (List.mem_cons_of_mem _ hx)) (fun x hx => hg x (List.mem_cons_of_mem _ hx))
        have h2 := rule_bl (h y (by simp)) (hg y (by simp))
        rw [List.flatMap_cons]
        exact BL.le (((bl_lit [10] rfl).app h2).app h1) (by simp only [List.length_cons, List.length_nil]; omega)
    have h1 := key (r := r) (fun x hx => h x (List.mem_cons_of_mem _ hx)) (fun x hx => hg x (List.mem_cons_of_mem _ hx))
    have h2 := rule_bl (h x (by simp)) (hg x (by simp))
    rw [printL]
    exact BL.le (h2.app h1) (by simp only [List.length_cons]; omega)
theorem right_good {l : List RuleM} (h : rightP l = true) : l.length ≤ 16 ∧ ∀ x ∈ l, goodR x = true := by
  unfold rightP at h
  rw [Bool.and_eq_true] at h
  exact ⟨of_decide_eq_true h.1, fun x hx => List.all_eq_true.1 h.2 x hx⟩
theorem goodR_whens {x : RuleM} (h : goodR x = true) : x.whens.length ≤ 1 ∧ ∀ e ∈ x.whens, goodF 200 e = true := by
  unfold goodR at h
  rw [Bool.and_eq_true, Bool.and_eq_true, Bool.and_eq_true] at h
  exact ⟨of_decide_eq_true h.2.2.1, fun e he => List.all_eq_true.1 h.2.2.2 e he⟩
/-- The text of a right policy that is looked at. -/
theorem right_bl {l : List RuleM} (hr : rightP l = true) (hl : ∀ x ∈ l, LookR x) : BL 200000000 (printL 200 l) := by
  obtain ⟨h1, h2⟩ := right_good hr
  exact BL.le (print_bl hl fun x hx => (goodR_whens (h2 x hx)).2) (by omega)
end Go.Proofs.YtcjfealalokjaaaGreatDoor
namespace Go.Proofs.YtcjfealalokjaaaGreatDoor
open Go Go.RowKit
def exPS : ByteArray := ⟨#[112, 101, 114, 109, 105, 116, 32, 115, 99, 111, 112, 101, 32, 34, 114, 101, 97, 100, 34, 32, 119, 104, 101, 110, 32, 99, 108, 97, 105, 109, 40, 34, 97, 103, 101, 34, 41, 32, 62, 61, 32, 49, 56, 32, 97, 110, 100, 32, 110, 111, 116, 32, 115, 117, 98, 106, 101, 99, 116, 32, 61, 32, 111, 119, 110, 101, 114, 59]⟩
def exPP : ByteArray := ⟨#[112, 101, 114, 109, 105, 116, 32, 115, 99, 111, 112, 101, 32, 34, 114, 101, 97, 100, 34, 32, 119, 104, 101, 110, 32, 49, 56, 32, 60, 61, 32, 99, 108, 97, 105, 109, 40, 34, 97, 103, 101, 34, 41, 32, 97, 110, 100, 32, 110, 111, 116, 32, 115, 117, 98, 106, 101, 99, 116, 32, 61, 32, 111, 119, 110, 101, 114, 59]⟩
def exPW : Ex := .mk 7 E0 0 [.mk 12 E0 0 [.mk 2 E0 18 [] 41, .mk 5 ⟨#[97, 103, 101]⟩ 0 [] 25] 38, .mk 6 E0 0 [.mk 9 E0 0 [.mk 4 ⟨#[115, 117, 98, 106, 101, 99, 116]⟩ 0 [] 52, .mk 4 ⟨#[111, 119, 110, 101, 114]⟩ 0 [] 62] 60] 48] 44
def exPR : RuleM := ⟨false, [⟨#[114, 101, 97, 100]⟩], [exPW], 0⟩
theorem exPParse : parseL (strL exPS) = ([exPR], 0, -1) := by kernel_rfl
theorem exPPrint : toS (printL 200 [exPR]) = exPP := by kernel_rfl
theorem exPRight : rightP [exPR] = true := by kernel_rfl
theorem exPGreat : greatP [exPR] = false := by kernel_rfl
end Go.Proofs.YtcjfealalokjaaaGreatDoor
namespace Go.Proofs.YtcjfealalokjaaaGreatDoor
open Go Go.RowKit
/-- What is asked of much, d levels left. -/
def MuchAsk (d : Nat) : Prop := ∀ (l : List Ex) (B : Nat) (A : Option Addr) (c : Nat) (left : Int) (W : World), B ≤ W.heap.size → -60 ≤ left → left ≤ 1500 → l.length ≤ 9223372036854775807 → (l ≠ [] → ∃ b o, A = some ⟨b, o, none⟩ ∧ b < B ∧ b < W.heap.size ∧ RepEs W (fun k => k < B) b o l) →
  Calls Tryz.prog 33 #[.slice A l.length c, .int .i64 left, .int .i64 (251 - (d : Int))] W fun e w' => e = .returned (.int .i64 (muchL d l left)) ∧ Below W.heap.size W w'
theorem muchGo_step {f : List Ex → Int → Int} {l : List Ex} {i : Nat} (h : i < l.length) {left : Int} (h0 : 0 ≤ left) (hs : l[i].text.size ≤ 3000) : muchGo f (l.drop i) left = muchGo f (l.drop (i + 1)) (f l[i].parts (left - 1 - (min l[i].text.size 5000 / 100 : Nat))) := by
  rw [List.drop_eq_getElem_cons h, muchGo, if_neg (by omega), if_neg (by omega)]
theorem muchGo_long {f : List Ex → Int → Int} {l : List Ex} {i : Nat} (h : i < l.length) {left : Int} (h0 : 0 ≤ left) (hs : 3000 < l[i].text.size) : muchGo f (l.drop i) left = -1 := by
  rw [List.drop_eq_getElem_cons h, muchGo, if_neg (by omega), if_pos hs]
set_option maxRecDepth 100000 in
set_option maxHeartbeats 1000000 in
theorem much_zero : MuchAsk 0 := by
  intro l B A c left W hB h0 h1 hl hc
  show Calls Tryz.prog 33 #[_, _, .int .i64 251] W _
  rw [muchL]
  obtain ⟨n, hn⟩ : ∃ n, n = l.length := ⟨_, rfl⟩
  rw [← hn] at hl ⊢
  clear hc hn hB
  go_enter Tryz.func33, Tryz.ntmps33
  go_wp2
  go_ret
  exact ⟨rfl, Below.refl _ _⟩
set_option maxRecDepth 100000 in
set_option maxHeartbeats 4000000 in
theorem much_succ {d : Nat} (hd : d < 251) (ih : MuchAsk d) : MuchAsk (d + 1) := by
  intro l B A c left W hB h0 h1 hl hc
  obtain ⟨dp, hdp⟩ : ∃ x : Int, x = 251 - ((d + 1 : Nat) : Int) := ⟨_, rfl⟩
  rw [← hdp]
  have hdp1 : (251 - (d : Int)) = dp + 1 := by rw [hdp]; omega
  have d0 : ¬ (250 : Int) < dp := by rw [hdp]; omega
  have d1 : 0 ≤ dp := by rw [hdp]; omega
  have d2 : dp ≤ 250 := by omega
  have HIH := Lib.hid ih
  unfold MuchAsk at HIH
  rw [hdp1] at HIH
  have HC := Lib.hid hc
  have HBW := Lib.hid hB
  obtain ⟨n, hn⟩ : ∃ n, n = l.length := ⟨_, rfl⟩
  have HN := Lib.hid hn
  rw [← hn] at hl ⊢
  obtain ⟨R, hR⟩ : ∃ R, R = muchL (d + 1) l left := ⟨_, rfl⟩
  rw [← hR]
  have HR0 : Hid (R = muchGo (muchL d) (l.drop 0) left) := Lib.hid (by rw [hR, muchL, List.drop_zero])
  clear hc hn hB hR ih hdp hdp1 hd
  go_enter Tryz.func33, Tryz.ntmps33
  go_wp2
  go_loopw [1, 7] (fun u v wr => ∃ (i : Nat) (lf : Int), i ≤ n ∧ u = .int .i64 lf ∧ v = .int .i64 (i : Int) ∧ -60 ≤ lf ∧ lf ≤ 1500 ∧ R = muchGo (muchL d) (l.drop i) lf ∧ Below W.heap.size W wr) (fun _ v _ => n - (intOf v).toNat)
  case atStart => exact ⟨0, left, Nat.zero_le _, rfl, rfl, h0, h1, HR0.out, Below.refl _ _⟩
  case round =>
    obtain ⟨i, lf, hi, rfl, rfl, g0, g1, hrun, hbel⟩ := hrel
    have HRUN := Lib.hid hrun
    have HBE := Lib.hid hbel
    clear hrun
    by_cases hlt : i < n
    · have i1 : (i : Int) < (n : Int) := by omega
      by_cases hneg : lf < 0
      · have n1 : ¬ (0 : Int) ≤ lf := by omega
        have HR : Hid (R = lf) := Lib.hid (by rw [HRUN.out, muchGo_neg _ _ _ hneg])
        clear hbel
        go_wp2
        go_ret
        rw [HR.out]
        exact ⟨rfl, HBE.out⟩
      · have n1 : (0 : Int) ≤ lf := by omega
        have i2 : (0 : Int) ≤ (i : Int) := by omega
        have hil : i < l.length := by rw [← HN.out]; exact hlt
        obtain ⟨g, o, rfl, hgB, hg, hre⟩ := HC.out (fun e => by rw [e] at hil; exact absurd hil (Nat.not_lt_zero _))
        obtain ⟨v, hrx, hf⟩ := hre.at i hil
        obtain ⟨P, c1, hpv, hsz, hpl, hpc⟩ := hrx.open
        obtain ⟨X, x3, xc, hcv, hx3, k0, k1, k2, k3, k4⟩ := hrx.cells hf
        rw [hpv] at hcv
        simp only [Value.agg.injEq, Array.mk.injEq, List.cons.injEq, and_true, Value.slice.injEq, true_and] at hcv
        obtain ⟨rfl, -, rfl⟩ := hcv
        subst hx3
        have q1 := (hbel.cell (p := ⟨g, o + i * 5 + 1, none⟩) hg).trans k1
        have q3 := (hbel.cell (p := ⟨g, o + i * 5 + 3, none⟩) hg).trans k3
        have HST := Lib.hid (muchGo_step (f := muchL d) hil n1)
        have HLO := Lib.hid (muchGo_long (f := muchL d) hil n1)
        have HBD := Lib.hid (fun c (hc : c ≤ 50) => muchL_bd d l[i].parts (lf - 1 - ((c : Nat) : Int)) (by omega) (by omega))
        have HCALL := Lib.hid (fun (c0 : Nat) (hc : c0 ≤ 50) => HIH.out l[i].parts B P c1 (lf - 1 - (c0 : Int)) wr (Nat.le_trans HBW.out hbel.size) (by omega) (by omega) (Nat.le_trans hpl.1 hpl.2) (fun hne => by
          obtain ⟨b, o2, e1, hb1, hb2, hb3⟩ := hpc hne
          exact ⟨b, o2, e1, hb1, Nat.lt_of_lt_of_le hb2 hbel.size, hb3.under HBW.out hb1 hbel⟩))
        obtain ⟨t, ht⟩ : ∃ t, t = l[i].text := ⟨_, rfl⟩
        obtain ⟨m, hm⟩ : ∃ m, m = l[i].parts.length := ⟨_, rfl⟩
        rw [← ht] at q1 HST HLO hsz
        rw [← hm] at q3 HCALL hpl
        have hm9 : m ≤ 9223372036854775807 := Nat.le_trans hpl.1 hpl.2
        clear hre hrx hf hpv hpc k0 k1 k2 k3 k4 ht hm hbel hpl
        by_cases hbig : 3000 < t.size
        · have HR : Hid (R = -1) := Lib.hid (HRUN.out.trans (HLO.out hbig))
          have t1 : (3000 : Int) < (t.size : Int) := by omega
          clear HST HLO HCALL HBD
          by_cases t5 : (t.size : Int) ≤ 5000
          · have m1 : min (t.size : Int) 5000 = t.size := by omega
            go_wp2
            (try go_wp2)
            go_ret
            rw [HR.out]
            exact ⟨rfl, HBE.out⟩
          · have m1 : min (t.size : Int) 5000 = 5000 := by omega
            go_wp2
            (try go_wp2)
            go_ret
            rw [HR.out]
            exact ⟨rfl, HBE.out⟩
        · have t1 : ¬ (3000 : Int) < (t.size : Int) := by omega
          have t5 : (t.size : Int) ≤ 5000 := by omega
          have hmin : min t.size 5000 = t.size := by omega
          obtain ⟨c0, hc0⟩ : ∃ c0 : Nat, c0 = t.size / 100 := ⟨_, rfl⟩
          have hcc : c0 ≤ 50 := by omega
          have hq : min (t.size : Int) 5000 / 100 = (c0 : Int) := by omega
          have HC0 := Lib.hid (HCALL.out c0 hcc)
          obtain ⟨r, hr⟩ : ∃ r, r = muchL d l[i].parts (lf - 1 - (c0 : Int)) := ⟨_, rfl⟩
          have HB0 := Lib.hid (HBD.out c0 hcc)
          have HR : Hid (R = muchGo (muchL d) (l.drop (i + 1)) r) := Lib.hid (by rw [HRUN.out, HST.out (by omega), hmin, ← hc0, ← hr])
          rw [← hr] at HC0 HB0
          have hb1 := HB0.out.1
          have hb2 : r ≤ 1500 := by have := HB0.out.2; omega
          clear HST HLO HCALL HBD hr hmin hc0 hbig
          go_wp2_with fail
          (try rw [hq])
          (with_reducible refine HC0.out.mono ?_)
          rintro e w3 ⟨rfl, hb3⟩
          have HB3 := Lib.hid (HBE.out.trans (hb3.mono HBE.out.size))
          clear hb3
          go_wp2
          go_roundw
          case rel => exact ⟨i + 1, r, hlt, rfl, by go_num, hb1, hb2, HR.out, HB3.out⟩
          case measure => simp [intOf]; omega
    · obtain rfl : i = n := by omega
      have hi1 : ¬ (i : Int) < (i : Int) := by omega
      have HR : Hid (R = lf) := Lib.hid (by rw [HRUN.out, List.drop_eq_nil_of_le (by rw [HN.out]; exact Nat.le_refl _), muchGo])
      clear hbel
      go_wp2
      go_ret
      rw [HR.out]
      exact ⟨rfl, HBE.out⟩
theorem much_any : ∀ d, d ≤ 251 → MuchAsk d
  | 0, _ => much_zero
  | d + 1, h => much_succ (by omega) (much_any d (by omega))
theorem greatGo_at {l : List RuleM} {i : Nat} (h : i < l.length) (left : Int) : greatGo (l.drop i) left = if 40 < l[i].scopes.length then true else if l[i].scopes.any (fun s => decide (1000 < s.size)) = true then true else if muchL 250 l[i].whens left < 0 then true else greatGo (l.drop (i + 1)) (muchL 250 l[i].whens left) := by
  rw [List.drop_eq_getElem_cons h, greatGo]
set_option maxRecDepth 100000 in
set_option maxHeartbeats 4000000 in
theorem refGreatP_any {B : Nat} {l : List RuleM} {W : World} {v : Value} (hB : B ≤ W.heap.size) (hv : RepP W (fun k => k < B) l v) :
    Calls Tryz.prog 15 #[v] W fun e w' => e = .returned (.bool (greatP l)) ∧ Below W.heap.size W w' := by
  obtain ⟨A, c, rfl, hl, hr⟩ := hv
  have HC := Lib.hid hr
  have HBW := Lib.hid hB
  obtain ⟨n, hn⟩ : ∃ n, n = l.length := ⟨_, rfl⟩
  have HN := Lib.hid hn
  rw [← hn] at hl ⊢
  obtain ⟨R, hR⟩ : ∃ R, R = greatP l := ⟨_, rfl⟩
  rw [← hR]
  unfold greatP at hR
  rw [← hn] at hR
  have HR0 := Lib.hid hR
  clear hr hn hB hR
  by_cases h40 : 40 < n
  · have c1 : (40 : Int) < (n : Int) := by omega
    have HR : Hid (R = true) := Lib.hid (HR0.out.trans (if_pos h40))
    go_enter Tryz.func15, Tryz.ntmps15
    go_wp2
    go_ret
    rw [HR.out]
    exact ⟨rfl, Below.refl _ _⟩
  have c1 : ¬ (40 : Int) < (n : Int) := by omega
  have HR1 : Hid (R = greatGo (l.drop 0) 1500) := Lib.hid (by rw [List.drop_zero]; exact HR0.out.trans (if_neg h40))
  clear HR0
  go_enter Tryz.func15, Tryz.ntmps15
  go_wp2
  go_loopw [3, 4] (fun u v wr => ∃ (i : Nat) (lf : Int), i ≤ n ∧ u = .int .i64 lf ∧ v = .int .i64 (i : Int) ∧ 0 ≤ lf ∧ lf ≤ 1500 ∧ R = greatGo (l.drop i) lf ∧ Below W.heap.size W wr) (fun _ v _ => n - (intOf v).toNat)
  case atStart => exact ⟨0, 1500, Nat.zero_le _, rfl, rfl, by omega, by omega, HR1.out, Below.refl _ _⟩
  case round =>
    obtain ⟨i, lf, hi, rfl, rfl, g0, g1, hrun, hbel⟩ := hrel
    have HBE := Lib.hid hbel
    by_cases hlt : i < n
    · have i1 : (i : Int) < (n : Int) := by omega
      have i2 : (0 : Int) ≤ (i : Int) := by omega
      have hil : i < l.length := by rw [← HN.out]; exact hlt
      rw [greatGo_at hil] at hrun
      have HRUN := Lib.hid hrun
      obtain ⟨g, o, rfl, hgB, hg, hre⟩ := HC.out (fun e => by rw [e] at hil; exact absurd hil (Nat.not_lt_zero _))
      obtain ⟨a0, a1, a2, a3, hrx, k0, k1, k2, k3⟩ := hre i hil
      obtain ⟨vs, vw, e, ⟨SA, cs, rfl, hsn, hsc⟩, ⟨AW, cw, rfl, hwn, hwc⟩⟩ := hrx
      simp only [Value.agg.injEq, Array.mk.injEq, List.cons.injEq, and_true] at e
      obtain ⟨rfl, rfl, rfl, rfl⟩ := e
      have HMU := Lib.hid (fun (w' : World) (hw : Below W.heap.size W w') => much_any 250 (by decide) l[i].whens B AW cw lf w' (Nat.le_trans HBW.out hw.size) (by omega) g1 hwn (fun hne => by
        obtain ⟨b, o2, e1, hb1, hb2, hb3⟩ := hwc hne
        exact ⟨b, o2, e1, hb1, Nat.lt_of_lt_of_le hb2 hw.size, hb3.under HBW.out hb1 hw⟩))
      have HMU2 : Hid (∀ (w' : World), Below W.heap.size W w' → Calls Tryz.prog 33 #[.slice AW l[i].whens.length cw, .int .i64 lf, .int .i64 1] w' fun e w'' => e = .returned (.int .i64 (muchL 250 l[i].whens lf)) ∧ Below w'.heap.size w' w'') := HMU
      have HMB := Lib.hid (muchL_bd 250 l[i].whens lf (by omega) g1)
      obtain ⟨r, hr⟩ : ∃ r, r = muchL 250 l[i].whens lf := ⟨_, rfl⟩
      rw [← hr] at HMU2 HMB HRUN
      obtain ⟨ss, hss⟩ : ∃ s, s = l[i].scopes := ⟨_, rfl⟩
      rw [← hss] at HRUN hsc hsn k1
      obtain ⟨m, hm⟩ : ∃ m, m = ss.length := ⟨_, rfl⟩
      obtain ⟨q, hq⟩ : ∃ q, q = l[i].whens.length := ⟨_, rfl⟩
      rw [← hm] at k1 hsn HRUN
      rw [← hq] at k2 HMU2 hwn
      have HM := Lib.hid hm
      have HSC := Lib.hid hsc
      have HK := Lib.hid (And.intro hg (And.intro k1 k2))
      have z1 : wr.cell? ⟨g, o + i * 4 + 1, none⟩ = some (.slice SA m cs) := (hbel.cell (p := ⟨g, _, none⟩) hg).trans k1
      clear HMU hrun hre hsc hwc k0 k1 k2 k3 hr hss hm hq hil
      by_cases hm4 : 40 < m
      · have m1 : (40 : Int) < (m : Int) := by omega
        have HR : Hid (R = true) := Lib.hid (HRUN.out.trans (if_pos hm4))
        clear hbel
        go_wp2
        go_ret
        rw [HR.out]
        exact ⟨rfl, HBE.out⟩
      have m1 : ¬ (40 : Int) < (m : Int) := by omega
      have HRUN2 := Lib.hid (HRUN.out.trans (if_neg hm4))
      clear hbel HRUN
      go_wp2
      clear z1
      go_loopw [5] (fun v wr => ∃ k : Nat, k ≤ m ∧ v = .int .i64 (k : Int) ∧ (∀ x (hx : x < ss.length), x < k → ss[x].size ≤ 1000) ∧ Below W.heap.size W wr) (fun v _ => m - (intOf v).toNat)
      case atStart => exact ⟨0, Nat.zero_le _, rfl, fun x _ hx => absurd hx (Nat.not_lt_zero _), HBE.out⟩
      case round =>
        obtain ⟨k, hk, rfl, hall, hbel⟩ := hrel
        have HAL := Lib.hid hall
        have HBS := Lib.hid hbel
        clear hall
        have z1 : wr.cell? ⟨g, o + i * 4 + 1, none⟩ = some (.slice SA m cs) := (hbel.cell (p := ⟨g, _, none⟩) HK.out.1).trans HK.out.2.1
        have z2 : wr.cell? ⟨g, o + i * 4 + 2, none⟩ = some (.slice AW q cw) := (hbel.cell (p := ⟨g, _, none⟩) HK.out.1).trans HK.out.2.2
        by_cases hkm : k < m
        · have kl : k < ss.length := by rw [← HM.out]; exact hkm
          have k1 : (k : Int) < (m : Int) := by omega
          have k2 : (0 : Int) ≤ (k : Int) := by omega
          obtain ⟨h, r2, rfl, _, hh, hcs⟩ := HSC.out (fun e => by rw [e] at kl; exact absurd kl (Nat.not_lt_zero _))
          obtain ⟨t, ht, _, l1⟩ := hcs k kl
          rw [List.getElem?_eq_getElem kl] at ht
          injection ht with ht
          have y1 := (hbel.cell (p := ⟨h, r2 + k, none⟩) hh).trans l1
          have HT := Lib.hid ht
          clear hcs l1 hbel ht z2
          by_cases hbig : 1000 < t.size
          · have t1 : (1000 : Int) < (t.size : Int) := by omega
            have HR : Hid (R = true) := Lib.hid (HRUN2.out.trans (if_pos (List.any_eq_true.2 ⟨ss[k], List.getElem_mem kl, decide_eq_true (by rw [HT.out]; exact hbig)⟩)))
            go_wp2
            go_ret
            rw [HR.out]
            exact ⟨rfl, HBS.out⟩
          · have t1 : ¬ (1000 : Int) < (t.size : Int) := by omega
            go_wp2
            go_roundw
            case rel => exact ⟨k + 1, hkm, by go_num, fun x hx hx2 => by
              rcases Nat.lt_or_ge x k with h | h
              · exact HAL.out x hx h
              · obtain rfl : x = k := by omega
                rw [HT.out]; omega, HBS.out⟩
            case measure => simp [intOf]; omega
        · obtain rfl : k = m := by omega
          have hge : ¬ (k : Int) < (k : Int) := by omega
          have HRUN3 := Lib.hid (HRUN2.out.trans (if_neg (by
            rw [Bool.not_eq_true, List.any_eq_false]
            intro x hx
            obtain ⟨j, hj, rfl⟩ := List.getElem_of_mem hx
            have := HAL.out j hj (by rw [HM.out]; exact hj)
            simp; omega)))
          have HCL := Lib.hid (HMU2.out wr hbel)
          clear hbel hkm hk
          go_wp2_with fail
          (with_reducible refine HCL.out.mono ?_)
          rintro e w3 ⟨rfl, hb3⟩
          have HB3 := Lib.hid (HBS.out.trans (hb3.mono HBS.out.size))
          clear hb3 z1 z2
          by_cases hr0 : r < 0
          · have HR : Hid (R = true) := Lib.hid (HRUN3.out.trans (if_pos hr0))
            go_wp2
            go_ret
            rw [HR.out]
            exact ⟨rfl, HB3.out⟩
          · have HR := Lib.hid (HRUN3.out.trans (if_neg hr0))
            have hr1 : r ≤ 1500 := by have := HMB.out.2; omega
            go_wp2
            go_roundw
            case rel => exact ⟨i + 1, r, hlt, rfl, by go_num, by omega, hr1, HR.out, HB3.out⟩
            case measure => simp [intOf]; omega
    · obtain rfl : i = n := by omega
      have hi1 : ¬ (i : Int) < (i : Int) := by omega
      have HR : Hid (R = false) := Lib.hid (by rw [hrun, List.drop_eq_nil_of_le (by rw [HN.out]; exact Nat.le_refl _), greatGo])
      clear hbel hrun
      go_wp2
      go_ret
      rw [HR.out]
      exact ⟨rfl, HBE.out⟩
end Go.Proofs.YtcjfealalokjaaaGreatDoor
namespace Go.Proofs.YtcjfealalokjaaaGreatDoor
open Go Go.RowKit
theorem strs_beq {a b : ByteArray} (h : a = b) : (a.toList == b.toList) = true := by rw [eq_toList]; exact decide_eq_true h
theorem strs_bne {a b : ByteArray} (h : a ≠ b) : (a.toList == b.toList) = false := by rw [eq_toList]; exact decide_eq_false h
end Go.Proofs.YtcjfealalokjaaaGreatDoor
