/- The reference's Both, Less, Within. -/
import Derived.Test.YtapalkipdmdceaaScRefPut
namespace Go.Proofs.Ytapalkipdmdceaa
open Go Go.RowKit

theorem setLen (l : List ByteArray) (h : l.length ≤ 1000000) : (setS l).length ≤ 1000000 := Nat.le_trans (length_setS_le l []) (by simpa using h)
theorem filterLen (p : ByteArray → Bool) (a : List ByteArray) (k : Nat) (h : a.length ≤ 10000) : ((a.take k).filter p).length ≤ 1000000 := by
  refine Nat.le_trans (List.length_filter_le _ _) ?_
  rw [List.length_take]; omega
set_option maxRecDepth 100000 in
set_option maxHeartbeats 2000000 in
theorem refBoth_any (va vb : Value) (a b : List ByteArray) (w : World) (ha : SliceN w va a) (hb : SliceN w vb b) (hn : a.length ≤ 10000) (hn2 : b.length ≤ 10000) :
    Calls Try.prog 13 #[va, vb] w fun e w' => ∃ u, e = .returned u ∧ SliceN w' u (setS (a.filter fun x => hasN b x)) ∧ Below w.heap.size w w' := by
  obtain ⟨A, c, rfl, hc, hl, hok⟩ := ha
  obtain ⟨n, hnn⟩ : ∃ n, n = a.length := ⟨_, rfl⟩
  rw [← hnn] at hc ⊢
  obtain ⟨T, hT⟩ : ∃ T, T = setS (a.filter fun x => hasN b x) := ⟨_, rfl⟩
  rw [← hT]
  have hn9 : n ≤ 10000 := by omega
  have HN := Lib.hid hnn
  have HNA := Lib.hid hn
  have HL := Lib.hid hl
  have HOK := Lib.hid hok
  have HT := Lib.hid hT
  have HB := Lib.hid hb
  clear hnn hn hl hok hT hb
  go_enter Try.func13, Try.ntmps13
  go_wp2
  go_loopw [5, 6] (fun ov i wr => ∃ k : Nat, k ≤ n ∧ i = .int .i64 (k : Int) ∧ SliceN wr ov (setS ((a.take k).filter fun x => hasN b x)) ∧ Below w.heap.size w wr) (fun _ i _ => n - (intOf i).toNat)
  case atStart => exact ⟨0, Nat.zero_le _, rfl, SliceN.nil _, Below.refl _ _⟩
  case round =>
    obtain ⟨k, hk, rfl, hsl, hbel⟩ := hrel
    have HSL := Lib.hid hsl
    have HBE := Lib.hid hbel
    clear hsl hbel
    by_cases hlt : k < n
    · have hkl : k < a.length := by rw [← HN.out]; exact hlt
      obtain ⟨b1, o1, rfl, _, hcell⟩ := (HL.out.below HBE.out).at hkl
      have hi0 : (0 : Int) ≤ (k : Int) := by omega
      have HHAS := Lib.hid (refHas_any vb b a[k] wr (HB.out.below HBE.out) (by omega))
      have HPUT := Lib.hid (refPut_any _ (setS ((a.take k).filter fun x => hasN b x)) a[k] wr HSL.out (setLen _ (filterLen _ a k HNA.out)) (HOK.out _ (List.getElem_mem hkl)))
      have HTK : Hid ((a.take (k + 1)).filter (fun x => hasN b x) = (a.take k).filter (fun x => hasN b x) ++ (if hasN b a[k] = true then [a[k]] else [])) := Lib.hid (by
        rw [List.take_succ_eq_append_getElem hkl, List.filter_append]
        congr 1
        cases h : hasN b a[k] <;> simp [h])
      obtain ⟨x, hx⟩ : ∃ x, x = a[k] := ⟨_, rfl⟩
      rw [← hx] at hcell HTK HPUT HHAS
      clear hx hkl
      cases hp : hasN b x with
      | true =>
        rw [hp] at HHAS HTK
        rw [if_pos rfl] at HTK
        have HTS : Hid (setS ((a.take (k + 1)).filter fun x => hasN b x) = putS (setS ((a.take k).filter fun x => hasN b x)) x) := Lib.hid (by rw [HTK.out, setS_snoc])
        clear hp
        go_wp2_with (first
          | (go_at_call 8; (with_reducible refine HHAS.out.mono ?_); rintro e w2 ⟨rfl, rfl⟩)
          | (go_at_call 25; (with_reducible refine HPUT.out.mono ?_); rintro e w2 ⟨u, rfl, hs2, hb2⟩; have HS2 := Lib.hid hs2; have HB2 := Lib.hid (HBE.out.trans (hb2.mono HBE.out.size)); clear hs2 hb2))
        go_roundw
        case rel => exact ⟨k + 1, by omega, by go_num, by rw [HTS.out]; exact HS2.out, HB2.out⟩
        case measure => simp [intOf]; omega
      | false =>
        rw [hp] at HHAS HTK
        rw [if_neg (by simp), List.append_nil] at HTK
        clear hp
        go_wp2_with (go_at_call 8; (with_reducible refine HHAS.out.mono ?_); rintro e w2 ⟨rfl, rfl⟩)
        go_roundw
        case rel => exact ⟨k + 1, by omega, by go_num, by rw [HTK.out]; exact HSL.out, HBE.out⟩
        case measure => simp [intOf]; omega
    · obtain rfl : k = n := by omega
      have HTA : Hid (setS ((a.take k).filter fun x => hasN b x) = T) := Lib.hid (by rw [HN.out, List.take_length, HT.out])
      rw [HTA.out] at HSL
      clear hlt
      go_wp2
      go_ret
      exact ⟨_, rfl, HSL.out, HBE.out⟩
set_option maxRecDepth 100000 in
set_option maxHeartbeats 2000000 in
theorem refLess_any (va vb : Value) (a b : List ByteArray) (w : World) (ha : SliceN w va a) (hb : SliceN w vb b) (hn : a.length ≤ 10000) (hn2 : b.length ≤ 10000) :
    Calls Try.prog 17 #[va, vb] w fun e w' => ∃ u, e = .returned u ∧ SliceN w' u (setS (a.filter fun x => !hasN b x)) ∧ Below w.heap.size w w' := by
  obtain ⟨A, c, rfl, hc, hl, hok⟩ := ha
  obtain ⟨n, hnn⟩ : ∃ n, n = a.length := ⟨_, rfl⟩
  rw [← hnn] at hc ⊢
  obtain ⟨T, hT⟩ : ∃ T, T = setS (a.filter fun x => !hasN b x) := ⟨_, rfl⟩
  rw [← hT]
  have hn9 : n ≤ 10000 := by omega
  have HN := Lib.hid hnn
  have HNA := Lib.hid hn
  have HL := Lib.hid hl
  have HOK := Lib.hid hok
  have HT := Lib.hid hT
  have HB := Lib.hid hb
  clear hnn hn hl hok hT hb
  go_enter Try.func17, Try.ntmps17
  go_wp2
  go_loopw [5, 6] (fun ov i wr => ∃ k : Nat, k ≤ n ∧ i = .int .i64 (k : Int) ∧ SliceN wr ov (setS ((a.take k).filter fun x => !hasN b x)) ∧ Below w.heap.size w wr) (fun _ i _ => n - (intOf i).toNat)
  case atStart => exact ⟨0, Nat.zero_le _, rfl, SliceN.nil _, Below.refl _ _⟩
  case round =>
    obtain ⟨k, hk, rfl, hsl, hbel⟩ := hrel
    have HSL := Lib.hid hsl
    have HBE := Lib.hid hbel
    clear hsl hbel
    by_cases hlt : k < n
    · have hkl : k < a.length := by rw [← HN.out]; exact hlt
      obtain ⟨b1, o1, rfl, _, hcell⟩ := (HL.out.below HBE.out).at hkl
      have hi0 : (0 : Int) ≤ (k : Int) := by omega
      have HHAS := Lib.hid (refHas_any vb b a[k] wr (HB.out.below HBE.out) (by omega))
      have HPUT := Lib.hid (refPut_any _ (setS ((a.take k).filter fun x => !hasN b x)) a[k] wr HSL.out (setLen _ (filterLen _ a k HNA.out)) (HOK.out _ (List.getElem_mem hkl)))
      have HTK : Hid ((a.take (k + 1)).filter (fun x => !hasN b x) = (a.take k).filter (fun x => !hasN b x) ++ (if hasN b a[k] = false then [a[k]] else [])) := Lib.hid (by
        rw [List.take_succ_eq_append_getElem hkl, List.filter_append]
        congr 1
        cases h : hasN b a[k] <;> simp [h])
      obtain ⟨x, hx⟩ : ∃ x, x = a[k] := ⟨_, rfl⟩
      rw [← hx] at hcell HTK HPUT HHAS
      clear hx hkl
      cases hp : hasN b x with
      | false =>
        rw [hp] at HHAS HTK
        rw [if_pos rfl] at HTK
        have HTS : Hid (setS ((a.take (k + 1)).filter fun x => !hasN b x) = putS (setS ((a.take k).filter fun x => !hasN b x)) x) := Lib.hid (by rw [HTK.out, setS_snoc])
        clear hp
        go_wp2_with (first
          | (go_at_call 8; (with_reducible refine HHAS.out.mono ?_); rintro e w2 ⟨rfl, rfl⟩)
          | (go_at_call 25; (with_reducible refine HPUT.out.mono ?_); rintro e w2 ⟨u, rfl, hs2, hb2⟩; have HS2 := Lib.hid hs2; have HB2 := Lib.hid (HBE.out.trans (hb2.mono HBE.out.size)); clear hs2 hb2))
        go_roundw
        case rel => exact ⟨k + 1, by omega, by go_num, by rw [HTS.out]; exact HS2.out, HB2.out⟩
        case measure => simp [intOf]; omega
      | true =>
        rw [hp] at HHAS HTK
        rw [if_neg (by simp), List.append_nil] at HTK
        clear hp
        go_wp2_with (go_at_call 8; (with_reducible refine HHAS.out.mono ?_); rintro e w2 ⟨rfl, rfl⟩)
        go_roundw
        case rel => exact ⟨k + 1, by omega, by go_num, by rw [HTK.out]; exact HSL.out, HBE.out⟩
        case measure => simp [intOf]; omega
    · obtain rfl : k = n := by omega
      have HTA : Hid (setS ((a.take k).filter fun x => !hasN b x) = T) := Lib.hid (by rw [HN.out, List.take_length, HT.out])
      rw [HTA.out] at HSL
      clear hlt
      go_wp2
      go_ret
      exact ⟨_, rfl, HSL.out, HBE.out⟩
theorem nil_of_set {l : List ByteArray} : (setS l).length = 0 ↔ l = [] := by
  constructor
  · intro h
    have h2 : setS l = [] := List.eq_nil_of_length_eq_zero h
    cases l with
    | nil => rfl
    | cons x r =>
      have : x ∈ setS (x :: r) := mem_setS.2 List.mem_cons_self
      rw [h2] at this; cases this
  · rintro rfl; rfl
theorem within_less (a b : List ByteArray) : ((((setS (a.filter fun x => !hasN b x)).length : Nat) : Int) == 0) = a.all (hasN b) := by
  rw [Bool.eq_iff_iff, beq_iff_eq, List.all_eq_true]
  constructor
  · intro h x hx
    have h2 := nil_of_set.1 (show (setS (a.filter fun x => !hasN b x)).length = 0 by omega)
    cases hb : hasN b x with
    | true => rfl
    | false =>
      have : x ∈ a.filter fun x => !hasN b x := List.mem_filter.2 ⟨hx, by rw [hb]; rfl⟩
      rw [h2] at this; cases this
  · intro h
    have : a.filter (fun x => !hasN b x) = [] := List.filter_eq_nil_iff.2 fun x hx => by rw [h x hx]; simp
    rw [this]; rfl
set_option maxRecDepth 100000 in
set_option maxHeartbeats 1000000 in
theorem refWithin_any (va vb : Value) (a b : List ByteArray) (w : World) (ha : SliceN w va a) (hb : SliceN w vb b) (hn : a.length ≤ 10000) (hn2 : b.length ≤ 10000) :
    Calls Try.prog 10 #[va, vb] w fun e w' => e = .returned (.bool (a.all (hasN b))) ∧ Below w.heap.size w w' := by
  have HL := Lib.hid (refLess_any va vb a b w ha hb hn hn2)
  have HW := Lib.hid (within_less a b)
  clear ha hb
  go_enter Try.func10, Try.ntmps10
  go_wp2_with fail
  refine HL.out.mono ?_
  rintro e w1 ⟨u, rfl, ⟨A, c, rfl, -⟩, hb⟩
  have HB := Lib.hid hb
  clear hb
  go_wp2
  go_ret
  exact ⟨ret_boolR HW.out, HB.out⟩
end Go.Proofs.Ytapalkipdmdceaa
