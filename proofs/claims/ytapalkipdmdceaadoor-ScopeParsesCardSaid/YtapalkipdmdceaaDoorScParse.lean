/- The program's Parse. -/
import Derived.Test.YtapalkipdmdceaaDoorScCheck
import Derived.Test.YtapalkipdmdceaaDoorScWords
namespace Go.Proofs.YtapalkipdmdceaaDoor
open Go Go.RowKit

abbrev MaxLS (w : World) : Prop := ∃ m, w.cell? ⟨1, 0, none⟩ = some (.int .i64 m)
theorem MaxLS.below {w w' : World} (h : MaxLS w) (hb : Below w.heap.size w w') : MaxLS w' := by
  obtain ⟨m, hm⟩ := h
  exact ⟨m, (hb.cell (p := ⟨1, 0, none⟩) (lt_of_cell hm)).trans hm⟩
/-- strings.Cut at a blank. -/
theorem cutS_any (s : ByteArray) (w : World) (hm : MaxLS w) (hs : s.size ≤ 1000000000) :
    Calls Tryd.prog 18 #[.string s, .string ⟨#[32]⟩] w fun e w' => e = .returned (.tuple #[.string (ofL (Lib.cut (nmL s) [32]).1), .string (ofL (Lib.cut (nmL s) [32]).2.1), .bool (Lib.cut (nmL s) [32]).2.2]) ∧ Below w.heap.size w w' := by
  obtain ⟨m, hm⟩ := hm
  refine (Tryd.strings_Cut s ⟨#[32]⟩ m w (by omega) hm).mono ?_
  rintro e w' ⟨rfl, n, rfl⟩
  exact ⟨rfl, below_drewN (Below.refl _ _) n⟩
/-- What Parse hands back. -/
def ParseTellsS (s : ByteArray) (w : World) (e : Ending) (w' : World) : Prop :=
  ∃ v, e = .returned (.tuple #[v, SErr (okW (textW s))]) ∧ SliceN w' v (parseN s) ∧ Below w.heap.size w w'
theorem parsed_bad {s : ByteArray} (h : okW (textW s) = false) : parseN s = [] := by unfold parseN; rw [h]; rfl
theorem parsed_good {s : ByteArray} (h : okW (textW s) = true) : parseN s = setS (textW s) := by unfold parseN; rw [if_pos h]
theorem size_ofL (l : List UInt8) : (ofL l).size = l.length := rfl
theorem setS_set (a : List ByteArray) (x : ByteArray) : setS (setS a ++ [x]) = setS (a ++ [x]) := setS_congr fun y => by simp [mem_setS]
set_option maxRecDepth 100000 in
set_option maxHeartbeats 4000000 in
theorem parseS_any (s : ByteArray) (w : World) (hm : MaxLS w) (hs : s.size ≤ 100000) :
    Calls Tryd.prog 6 #[.string s] w (ParseTellsS s w) := by
  by_cases h0 : s.size = 0
  · obtain rfl : s = ⟨#[]⟩ := by
      obtain ⟨d⟩ := s
      have : d.size = 0 := h0
      rw [Array.eq_empty_of_size_eq_zero this]
    go_enter Tryd.func6, Tryd.ntmps6
    go_wp2
    refine wp_loop_rounds 1 ?_
    rw [rounds_succ]
    go_wp2
    go_ret2
    exact ⟨_, rfl, SliceN.nil _, Below.refl _ _⟩
  · have hne : (s.toList == (⟨#[]⟩ : ByteArray).toList) = false := by
      rw [show (⟨#[]⟩ : ByteArray).toList = [] by rw [ByteArray.toList_eq], beq_eq_false_iff_ne, ByteArray.toList_eq]
      intro e
      apply h0
      show s.data.size = 0
      rw [← Array.length_toList, e]; rfl
    have HE : Hid (s.toList.isEmpty = false) := Lib.hid (by
      rw [List.isEmpty_eq_false_iff]
      intro e
      rw [e, show (⟨#[]⟩ : ByteArray).toList = [] by rw [ByteArray.toList_eq]] at hne
      simp at hne)
    have HTW : Hid (textW s = wordsB s) := Lib.hid (by unfold textW; rw [if_neg h0])
    have HM := Lib.hid hm
    obtain ⟨s0, hs0⟩ : ∃ t, t = s := ⟨_, rfl⟩
    rw [← hs0] at HTW
    have HW0 : Hid (textW s0 = [] ++ wordsB s) := Lib.hid (by rw [HTW.out, hs0]; rfl)
    show Calls _ _ _ _ (ParseTellsS s w)
    rw [show ParseTellsS s w = ParseTellsS s0 w by rw [hs0]]
    clear h0 hm HTW hs0
    go_enter Tryd.func6, Tryd.ntmps6
    go_wp2
    go_loopw [0, 4, 5] (fun sv lv mv wr => ∃ (done : List ByteArray) (t : ByteArray), sv = .string t ∧ t.size ≤ 100000 ∧ SliceN wr lv (setS done) ∧ (setS done).length ≤ 16 ∧ (∀ x ∈ done, nameB (strL x) = true) ∧ Below w.heap.size w wr ∧ ((mv = .bool true ∧ textW s0 = done ++ wordsB t) ∨ (mv = .bool false ∧ textW s0 = done))) (fun sv _ mv _ => match mv, sv with | .bool true, .string t => t.size + 1 | _, _ => 0)
    case atStart => exact ⟨[], s, rfl, hs, SliceN.nil _, by simp [setS], by simp, Below.refl _ _, .inl ⟨by rw [HE.out]; rfl, HW0.out⟩⟩
    case round =>
      clear HW0 hs hne HE
      obtain ⟨done, t, rfl, ht, hsl, hle, hall, hbel, ⟨rfl, hw⟩ | ⟨rfl, hw⟩⟩ := hrel
      · have HSL := Lib.hid hsl
        obtain ⟨A4, c4, rfl, -⟩ := hsl
        obtain ⟨q, hq⟩ : ∃ q, q = (setS done).length := ⟨_, rfl⟩
        rw [← hq] at HSL hle ⊢
        have HQ := Lib.hid hq
        have hq16 := hle
        clear hq
        have HLE := Lib.hid hle
        have HALL := Lib.hid hall
        have HBE := Lib.hid hbel
        have HWD := Lib.hid hw
        clear hle hall hbel hw
        have HCUT := Lib.hid (cutS_any t wr (HM.out.below HBE.out) (by omega))
        obtain ⟨nm, hnm⟩ : ∃ x, x = ofL (Lib.cut (nmL t) [32]).1 := ⟨_, rfl⟩
        obtain ⟨rest, hrest⟩ : ∃ x, x = ofL (Lib.cut (nmL t) [32]).2.1 := ⟨_, rfl⟩
        obtain ⟨more, hmore⟩ : ∃ x, x = (Lib.cut (nmL t) [32]).2.2 := ⟨_, rfl⟩
        have hcw := cut_words t
        rw [← hnm, ← hrest, ← hmore] at HCUT
        rw [← hnm, ← hmore] at hcw
        rw [← hrest] at hcw
        have hsn : nm.size ≤ 100000 := by
          rw [hnm, size_ofL]
          rcases hcw with ⟨_, _, _, h⟩ | ⟨_, _, h, _⟩ <;> omega
        have hsr : rest.size ≤ 100000 ∧ (more = true → rest.size < t.size) := by
          rw [hrest, size_ofL]
          rcases hcw with ⟨_, _, h, _⟩ | ⟨h1, _, _, h⟩
          · exact ⟨by omega, fun _ => h⟩
          · exact ⟨by omega, fun h2 => by rw [h1] at h2; cases h2⟩
        have hww : (more = true ∧ textW s0 = (done ++ [nm]) ++ wordsB rest) ∨ (more = false ∧ textW s0 = done ++ [nm]) := by
          rcases hcw with ⟨h1, h2, _⟩ | ⟨h1, h2, _⟩
          · exact .inl ⟨h1, by rw [HWD.out, h2]; simp⟩
          · exact .inr ⟨h1, by rw [HWD.out, h2]⟩
        have HWW := Lib.hid hww
        have HNIN : Hid (nm ∈ textW s0) := Lib.hid (by rcases hww with ⟨_, h⟩ | ⟨_, h⟩ <;> rw [h] <;> simp)
        have HRS := Lib.hid hsr
        clear hcw hww hnm hrest hmore HWD hsr
        have HNM := Lib.hid (fun W => name_any nm W)
        cases hnb : nameB (strL nm) with
        | false =>
          have HBAD : Hid (okW (textW s0) = false) := Lib.hid (okW_bad HNIN.out hnb)
          rw [hnb] at HNM
          clear hnb
          go_wp2_with (first
            | (go_at_call 18; (with_reducible refine HCUT.out.mono ?_); rintro e w2 ⟨rfl, hb2⟩; have HB2 := Lib.hid (HBE.out.trans (hb2.mono HBE.out.size)); clear hb2)
            | (go_at_call 10; (with_reducible refine (HNM.out _).mono ?_); rintro e w3 ⟨rfl, rfl⟩))
          go_ret2
          exact ⟨.slice none 0 0, by rw [HBAD.out]; rfl, by rw [parsed_bad HBAD.out]; exact SliceN.nil _, HB2.out⟩
        | true =>
          rw [hnb] at HNM
          have HNB := Lib.hid hnb
          clear hnb
          have HHAS := Lib.hid (fun W (hW : Below wr.heap.size wr W) => hasP_any (.slice A4 q c4) (setS done) nm W (HSL.out.below hW) (by rw [← HQ.out]; omega))
          cases hh : hasN (setS done) nm with
          | true =>
            have HSD : Hid (setS (done ++ [nm]) = setS done) := Lib.hid (by rw [setS_snoc]; unfold putS; rw [if_pos hh])
            rw [hh] at HHAS
            clear hh
            go_wp2_with (first
              | (go_at_call 18; (with_reducible refine HCUT.out.mono ?_); rintro e w2 ⟨rfl, hb2⟩; have HB2 := Lib.hid (HBE.out.trans (hb2.mono HBE.out.size)); have HH2 := Lib.hid (HHAS.out w2 hb2); have HSL2 := Lib.hid (HSL.out.below hb2); clear hb2)
              | (go_at_call 10; (with_reducible refine (HNM.out _).mono ?_); rintro e w3 ⟨rfl, rfl⟩)
              | (go_at_call 19; (with_reducible refine HH2.out.mono ?_); rintro e w3 ⟨rfl, rfl⟩))
            refine ⟨⟨done ++ [nm], rest, rfl, HRS.out.1, by rw [HSD.out]; exact HSL2.out, by rw [HSD.out, ← HQ.out]; exact HLE.out, ?_, HB2.out, ?_⟩, ?_⟩
            · intro y hy
              rcases List.mem_append.1 hy with hy | hy
              · exact HALL.out y hy
              · rw [List.mem_singleton.1 hy]; exact HNB.out
            · rcases HWW.out with ⟨h1, h2⟩ | ⟨h1, h2⟩
              · exact .inl ⟨by rw [h1], h2⟩
              · exact .inr ⟨by rw [h1], h2⟩
            · cases more with
              | true => have := HRS.out.2 rfl; show rest.size + 1 < t.size + 1; omega
              | false => show 0 < t.size + 1; omega
          | false =>
            rw [hh] at HHAS
            have HLN : Hid ((setS (done ++ [nm])).length = q + 1) := Lib.hid (by rw [setS_snoc, length_putS, if_neg (by rw [hh]; simp), HQ.out])
            clear hh
            by_cases h16 : q = 16
            · have HBAD : Hid (okW (textW s0) = false) := Lib.hid (by
                have hm : 16 < (setS (done ++ [nm])).length := by rw [HLN.out]; omega
                rcases HWW.out with ⟨_, h2⟩ | ⟨_, h2⟩
                · rw [h2]; exact okW_many hm
                · rw [h2, ← List.append_nil (done ++ [nm])]; exact okW_many hm)
              have hq : ((q : Int) == 16) = true := by simp [h16]
              clear h16
              go_wp2_with (first
              | (go_at_call 18; (with_reducible refine HCUT.out.mono ?_); rintro e w2 ⟨rfl, hb2⟩; have HBW := Lib.hid hb2; have HB2 := Lib.hid (HBE.out.trans (hb2.mono HBE.out.size)); have HH2 := Lib.hid (HHAS.out w2 hb2); have HSL2 := Lib.hid (HSL.out.below hb2); clear hb2)
              | (go_at_call 10; (with_reducible refine (HNM.out _).mono ?_); rintro e w3 ⟨rfl, rfl⟩)
              | (go_at_call 19; (with_reducible refine HH2.out.mono ?_); rintro e w4 ⟨rfl, rfl⟩))
              go_ret2
              exact ⟨.slice none 0 0, by rw [HBAD.out]; rfl, by rw [parsed_bad HBAD.out]; exact SliceN.nil _, HB2.out⟩
            · have hq : ((q : Int) == 16) = false := by rw [beq_eq_false_iff_ne]; omega
              have hq15 : q + 1 ≤ 16 := by omega
              have HALLC := Lib.hid (fun W (hW : Below wr.heap.size wr W) => all_any (.slice A4 q c4) (.slice (some ⟨W.heap.size, 0, none⟩) 1 1) (setS done) [nm] (W.alloc (.cells #[.string nm] 9)) ((HSL.out.below hW).below (belowAlloc _ _)) ⟨_, 1, rfl, Nat.le_refl _, fun _ => ⟨W.heap.size, 0, rfl, by simp, fun i x hi => by
                match i, hi with
                | 0, hi => simp at hi; subst hi; simp⟩, fun x hx => by rw [List.mem_singleton.1 hx]; omega⟩ (by rw [← HQ.out]; simp; omega))
              clear h16
              go_wp2_with (first
              | (go_at_call 18; (with_reducible refine HCUT.out.mono ?_); rintro e w2 ⟨rfl, hb2⟩; have HBW := Lib.hid hb2; have HB2 := Lib.hid (HBE.out.trans (hb2.mono HBE.out.size)); have HH2 := Lib.hid (HHAS.out w2 hb2); have HSL2 := Lib.hid (HSL.out.below hb2); clear hb2)
              | (go_at_call 10; (with_reducible refine (HNM.out _).mono ?_); rintro e w3 ⟨rfl, rfl⟩)
              | (go_at_call 19; (with_reducible refine HH2.out.mono ?_); rintro e w4 ⟨rfl, rfl⟩)
                | (go_at_call 20; (with_reducible refine (HALLC.out _ HBW.out).mono ?_); rintro e w5 ⟨v5, rfl, hs5, hb5⟩; have HS5 := Lib.hid hs5; have HB5 := Lib.hid (HB2.out.trans (((belowAlloc _ _).trans (hb5.mono (belowAlloc _ _).size)).mono HB2.out.size)); clear hs5 hb5))
              refine ⟨⟨done ++ [nm], rest, rfl, HRS.out.1, by rw [← setS_set]; exact HS5.out, by rw [HLN.out]; exact hq15, ?_, HB5.out, ?_⟩, ?_⟩
              · intro y hy
                rcases List.mem_append.1 hy with hy | hy
                · exact HALL.out y hy
                · rw [List.mem_singleton.1 hy]; exact HNB.out
              · rcases HWW.out with ⟨h1, h2⟩ | ⟨h1, h2⟩
                · exact .inl ⟨by rw [h1], h2⟩
                · exact .inr ⟨by rw [h1], h2⟩
              · cases more with
                | true => have := HRS.out.2 rfl; show rest.size + 1 < t.size + 1; omega
                | false => show 0 < t.size + 1; omega
      · have HSL := Lib.hid hsl
        have HBE := Lib.hid hbel
        have HGOOD : Hid (okW (textW s0) = true) := Lib.hid (by rw [hw]; exact okW_good hall hle)
        have HPN : Hid (parseN s0 = setS done) := Lib.hid (by rw [parsed_good HGOOD.out, hw])
        clear hsl hbel hw hall hle
        go_wp2
        go_ret2
        exact ⟨_, by rw [HGOOD.out]; rfl, by rw [HPN.out]; exact HSL.out, HBE.out⟩
end Go.Proofs.YtapalkipdmdceaaDoor
