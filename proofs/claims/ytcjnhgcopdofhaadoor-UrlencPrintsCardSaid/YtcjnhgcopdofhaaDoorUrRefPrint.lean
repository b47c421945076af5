/- The walk of the reference's Print. -/
import Derived.Test.YtcjnhgcopdofhaaDoorUrRefParse
namespace Go.Proofs.YtcjnhgcopdofhaaDoor
open Go Go.RowKit

def RefPrintTells (r : List Int × Int) (w : World) (e : Ending) (w' : World) : Prop :=
  e = .returned (.tuple #[.string (toS r.1), .int .i64 r.2]) ∧ Below w.heap.size w w'
set_option maxRecDepth 100000 in
set_option maxHeartbeats 1000000 in
theorem refPrint_many (A : Option Addr) (ps : PList) (n c : Nat) (w : World) (hn : ps.length = n) (h : 32 < n) :
    Calls Tryd.prog 15 #[.slice A n c] w (RefPrintTells (printedP ps) w) := by
  have HR : Hid (printedP ps = ([], 1)) := Lib.hid (by rw [printedP, if_pos (by omega)])
  have hf : (32 : Int) < (n : Int) := by omega
  rw [HR.out]
  go_enter Tryd.func15, Tryd.ntmps15
  go_wp2
  go_ret2
  exact ⟨rfl, Below.refl _ _⟩
/-- The text of so many, before the next. -/
def preT (ps : PList) : ByteArray := if ps = [] then ⟨#[]⟩ else toS (textP ps) ++ ⟨#[38]⟩
theorem preT_next (ps : PList) (p : ByteArray × ByteArray) : toS (textP (ps ++ [p])) = preT ps ++ toS (escL (strL p.1)) ++ ⟨#[61]⟩ ++ toS (escL (strL p.2)) := by
  have b1 := escL_bytes (strL_bd p.1)
  have b2 := escL_bytes (strL_bd p.2)
  have b61 : Bytes [61] := .of_mem (by decide)
  have b38 : Bytes [38] := .of_mem (by decide)
  have bt := textP_bytes ps
  rw [textP_snoc, preT]
  by_cases h : ps = []
  · rw [if_pos h, if_pos h, show (⟨#[61]⟩ : ByteArray) = toS [61] from rfl, show (⟨#[]⟩ : ByteArray) = toS [] from rfl, toS_append (.of_mem (by simp)) b1, toS_append (.append (.of_mem (by simp)) b1) b61, toS_append (.append (.append (.of_mem (by simp)) b1) b61) b2]
    simp [paramT]
  · rw [if_neg h, if_neg h, show (⟨#[61]⟩ : ByteArray) = toS [61] from rfl, show (⟨#[38]⟩ : ByteArray) = toS [38] from rfl, toS_append bt b38, toS_append (bt.append b38) b1, toS_append ((bt.append b38).append b1) b61, toS_append (((bt.append b38).append b1).append b61) b2]
    simp [paramT]
set_option maxRecDepth 100000 in
set_option maxHeartbeats 8000000 in
theorem refPrint_few (A : Option Addr) (ps : PList) (n c : Nat) (w : World) (hn : ps.length = n) (hnc : n ≤ c) (hl : LiesP w A ps) (hsm : smallP ps) (h : n ≤ 32) :
    Calls Tryd.prog 15 #[.slice A n c] w (RefPrintTells (printedP ps) w) := by
  have HR0 : Hid (printedP ps = if okP [] ps = false then ([], 1) else if 4096 < (textP ps).length then ([], 2) else (textP ps, 0)) := Lib.hid (by rw [printedP, if_neg (by omega)])
  have hf : ¬ (32 : Int) < (n : Int) := by omega
  have HN := Lib.hid hn
  have HL := Lib.hid hl
  have HSM := Lib.hid hsm
  clear hn hl hsm
  go_enter Tryd.func15, Tryd.ntmps15
  go_wp2
  go_loopw [4, 5] (fun tv jv wr => ∃ j : Nat, j ≤ n ∧ jv = .int .i64 (j : Int) ∧ okP [] ps = okP (ps.take j) (ps.drop j) ∧ tv = .string (toS (textP (ps.take j))) ∧ Below w.heap.size w wr) (fun _ jv _ => n - (intOf jv).toNat)
  case atStart => exact ⟨0, Nat.zero_le _, rfl, rfl, rfl, Below.refl _ _⟩
  case round =>
    obtain ⟨j, hj, rfl, hrun, rfl, hbel⟩ := hrel
    have HRUN := Lib.hid hrun
    have HBE := Lib.hid hbel
    clear hrun hbel
    by_cases hlt : j < n
    · have hjl : j < ps.length := by rw [HN.out]; exact hlt
      have hll := HL.out.below HBE.out
      obtain ⟨b, o, rfl, _, c1, c2⟩ := hll.at hjl
      have hi0' : (0 : Int) ≤ (j : Int) := by omega
      have hi1' : (j : Int) < (n : Int) := by omega
      have hi2' : (j : Int) ≤ (c : Int) := by omega
      have hdr : ps.drop j = ps[j] :: ps.drop (j + 1) := List.drop_eq_getElem_cons hjl
      have htk : ps.take (j + 1) = ps.take j ++ [ps[j]] := by rw [List.take_succ_eq_append_getElem hjl]
      have HST : Hid (okP [] ps = (!(getB (ps.take j) ps[j].1).2 && rightP ps[j] && okP (ps.take (j + 1)) (ps.drop (j + 1)))) := Lib.hid (by rw [HRUN.out, hdr, okP_step, htk])
      have HTX : Hid (toS (textP (ps.take (j + 1))) = preT (ps.take j) ++ toS (escL (strL ps[j].1)) ++ ⟨#[61]⟩ ++ toS (escL (strL ps[j].2))) := Lib.hid (by rw [htk, preT_next])
      obtain ⟨s1, s2⟩ := HSM.out ps[j] (List.getElem_mem hjl)
      have HLW := Lib.hid hll
      have HGET := Lib.hid (fun (c' : Nat) (W : World) (hW : Below wr.heap.size wr W) => (refGet_any (some ⟨b, o, none⟩) (ps.take j) j c' ps[j].1 W (by rw [List.length_take]; omega) (by omega) ((hll.below hW).take j)).mono (R' := fun e w' => e = .returned (.tuple #[.string (getB (ps.take j) ps[j].1).1, .bool (getB (ps.take j) ps[j].1).2]) ∧ w' = W) fun e w' h => ⟨h.1, h.2.symm⟩)
      have htl : (textP (ps.take j)).length ≤ 600000 := by
        have h1 := textP_len (ps.take j) (fun p hp => HSM.out p (List.mem_of_mem_take hp))
        have h2 := List.length_take_le j ps
        omega
      have HPL : Hid ((preT (ps.take j)).size ≤ 700000) := Lib.hid (by
        unfold preT
        split
        · decide
        · rw [ByteArray.size_append, size_toS]; show _ + 1 ≤ _; omega)
      have HPJ : Hid (if 0 < j then preT (ps.take j) = toS (textP (ps.take j)) ++ ⟨#[38]⟩ else preT (ps.take j) = toS (textP (ps.take j))) := Lib.hid (by
        by_cases h0 : 0 < j
        · rw [if_pos h0, preT, if_neg]
          intro e
          have := congrArg List.length e
          rw [List.length_take, HN.out] at this
          have h3 : min j n = 0 := this
          omega
        · obtain rfl : j = 0 := by omega
          rw [if_neg h0]; rfl)
      obtain ⟨p, hp⟩ : ∃ p, p = ps[j] := ⟨_, rfl⟩
      rw [← hp] at c1 c2 HST HTX s1 s2 HGET
      obtain ⟨x, y⟩ := p
      simp only at c1 c2 HST HTX s1 s2 HGET
      have HRP := Lib.hid (rightP_eq x y)
      obtain ⟨u, hu⟩ : ∃ u, u = (getB (ps.take j) x).1 := ⟨_, rfl⟩
      obtain ⟨T, hT⟩ : ∃ T, T = toS (textP (ps.take j)) := ⟨_, rfl⟩
      obtain ⟨T1, hT1⟩ : ∃ T1, T1 = preT (ps.take j) := ⟨_, rfl⟩
      have HTS : Hid (T.size ≤ 600000) := Lib.hid (by rw [hT, size_toS]; exact htl)
      rw [← hT, ← hT1] at HPJ
      rw [← hT1] at HTX HPL
      rw [← hT]
      clear hp hdr htk hjl HRUN hll hT hT1 htl
      cases hg : (getB (ps.take j) x).2 with
      | true =>
        have HR : Hid (printedP ps = ([], 1)) := Lib.hid (by rw [HR0.out, HST.out, hg]; rfl)
        rw [hg, ← hu] at HGET
        clear hg HST hu
        go_wp2_with fail
        go_quiet ((go_at_call 17; exact Calls.quiet_of_same (HGET.out _ _ (below_drewN (Below.refl _ _) _))))
        go_wp2
        go_ret2
        rw [HR.out]
        exact ⟨rfl, below_drewN HBE.out _⟩
      | false =>
        rw [hg, ← hu] at HGET
        rw [hg] at HST
        clear hg hu
        go_wp2_with fail
        go_quiet ((go_at_call 17; exact Calls.quiet_of_same (HGET.out _ _ (below_drewN (Below.refl _ _) _))))
        have HBE1 := Lib.hid (below_drewN HBE.out nq)
        have d1 : (wr.drewN nq).cell? ⟨b, o + j * 2, none⟩ = some (.string x) := c1
        have d2 : (wr.drewN nq).cell? ⟨b, o + j * 2 + 1, none⟩ = some (.string y) := c2
        clear c1 c2 HGET HLW HBE
        generalize wr.drewN nq = W1 at *
        have HB1 := Lib.hid (fun W : World => refBad_any x W (by omega))
        have HB2 := Lib.hid (fun W : World => refBad_any y W (by omega))
        by_cases hx0 : x = ⟨#[]⟩
        · have HR : Hid (printedP ps = ([], 1)) := Lib.hid (by rw [HR0.out, HST.out, HRP.out, hx0, if_pos (by simp)])
          subst hx0
          go_wp2
          go_ret2
          rw [HR.out]
          exact ⟨rfl, HBE1.out⟩
        · have hpos : 0 < x.size := Nat.pos_of_ne_zero fun h0 => hx0 (by
            cases x with | mk d => cases d with | mk l => cases l with | nil => rfl | cons x r => simp [ByteArray.size] at h0)
          have f1 := notEmpty hpos
          have f2 : (x.toList == []) = false := by
            rw [beq_eq_false_iff_ne]; intro h; rw [h] at f1; simp at f1
          have f3 : ¬ x.toList = [] := by intro h; rw [h] at f1; simp at f1
          have HRP2 : Hid (rightP (x, y) = (isU x && isU y)) := Lib.hid (by rw [HRP.out]; simp [hx0])
          clear hx0
          cases hu1 : isU x with
          | false =>
            have hb1 := badR_pos hu1
            have HR : Hid (printedP ps = ([], 1)) := Lib.hid (by rw [HR0.out, HST.out, HRP2.out, hu1, if_pos (by simp)])
            obtain ⟨z, hz⟩ : ∃ z, z = badR (strL x) := ⟨_, rfl⟩
            rw [← hz] at HB1 hb1
            clear hu1 hz
            go_wp2_with (go_at_call 25; (with_reducible refine (HB1.out _).mono ?_); rintro e w3 ⟨rfl, hb⟩; have e1 := (hb.cell (p := ⟨b, o + j * 2, none⟩) (lt_of_cell d1)).trans d1; have e2 := (hb.cell (p := ⟨b, o + j * 2 + 1, none⟩) (lt_of_cell d2)).trans d2; have HV3 := Lib.hid (HBE1.out.trans (hb.mono HBE1.out.size)); clear hb)
            go_ret2
            rw [HR.out]
            exact ⟨rfl, HV3.out⟩
          | true =>
            have hb1 := badR_neg hu1
            rw [hb1] at HB1
            have f4 : ¬ (0 : Int) ≤ -1 := by decide
            cases hu2 : isU y with
            | false =>
              have hb2 := badR_pos hu2
              have HR : Hid (printedP ps = ([], 1)) := Lib.hid (by rw [HR0.out, HST.out, HRP2.out, hu1, hu2, if_pos (by simp)])
              obtain ⟨z, hz⟩ : ∃ z, z = badR (strL y) := ⟨_, rfl⟩
              rw [← hz] at HB2 hb2
              clear hu1 hu2 hb1 hz
              go_wp2_with (first
                | (go_at_call 25; (with_reducible refine (HB1.out _).mono ?_); rintro e w3 ⟨rfl, hb⟩; have e1 := (hb.cell (p := ⟨b, o + j * 2, none⟩) (lt_of_cell d1)).trans d1; have e2 := (hb.cell (p := ⟨b, o + j * 2 + 1, none⟩) (lt_of_cell d2)).trans d2; have HV3 := Lib.hid (HBE1.out.trans (hb.mono HBE1.out.size)); clear hb)
                | (go_at_call 25; (with_reducible refine (HB2.out _).mono ?_); rintro e w4 ⟨rfl, hb⟩; have g1 := (hb.cell (p := ⟨b, o + j * 2, none⟩) (lt_of_cell e1)).trans e1; have g2 := (hb.cell (p := ⟨b, o + j * 2 + 1, none⟩) (lt_of_cell e2)).trans e2; have HV4 := Lib.hid (HV3.out.trans (hb.mono HV3.out.size)); clear hb))
              go_ret2
              rw [HR.out]
              exact ⟨rfl, HV4.out⟩
            | true =>
              have hb2 := badR_neg hu2
              rw [hb2] at HB2
              have HST2 : Hid (okP [] ps = okP (ps.take (j + 1)) (ps.drop (j + 1))) := Lib.hid (by rw [HST.out, HRP2.out, hu1, hu2]; simp)
              have HE1 := Lib.hid (fun W : World => refEscape_any x W (by omega))
              have HE2 := Lib.hid (fun W : World => refEscape_any y W (by omega))
              have hx9 := escL_len (strL x)
              have hy9 := escL_len (strL y)
              rw [length_strL] at hx9 hy9
              have hX9 : (toS (escL (strL x))).size ≤ 9000 := by rw [size_toS]; omega
              have hY9 : (toS (escL (strL y))).size ≤ 9000 := by rw [size_toS]; omega
              obtain ⟨X, hX⟩ : ∃ X, X = toS (escL (strL x)) := ⟨_, rfl⟩
              obtain ⟨Y, hY⟩ : ∃ Y, Y = toS (escL (strL y)) := ⟨_, rfl⟩
              rw [← hX] at HE1 hX9
              rw [← hY] at HE2 hY9
              have HX : Hid (toS (escL (strL x)) = X) := Lib.hid hX.symm
              have HY : Hid (toS (escL (strL y)) = Y) := Lib.hid hY.symm
              clear hu1 hu2 hb1 hb2 hX hY hx9 hy9
              by_cases h0 : 0 < j
              · have HPJ2 := Lib.hid (show T1 = T ++ ⟨#[38]⟩ from by have := HPJ.out; rwa [if_pos h0] at this)
                rw [HPJ2.out] at HTX HPL
                have hj0 : (0 : Int) < (j : Int) := by omega
                have r0 := fun W : World => run_string_add_sum (P := Tryd.prog) (w := W) T ⟨#[38]⟩ (by have := HTS.out; show _ + 1 ≤ _; omega)
                have ht0 : T.size + 1 ≤ 9223372036854775807 := by have := HTS.out; omega
                clear h0
                go_upto_region 12 with (first
                  | (go_at_call 25; (with_reducible refine (HB1.out _).mono ?_); rintro e w3 ⟨rfl, hb⟩; have e1 := (hb.cell (p := ⟨b, o + j * 2, none⟩) (lt_of_cell d1)).trans d1; have e2 := (hb.cell (p := ⟨b, o + j * 2 + 1, none⟩) (lt_of_cell d2)).trans d2; have HV3 := Lib.hid (HBE1.out.trans (hb.mono HBE1.out.size)); clear hb)
                  | (go_at_call 25; (with_reducible refine (HB2.out _).mono ?_); rintro e w4 ⟨rfl, hb⟩; have g1 := (hb.cell (p := ⟨b, o + j * 2, none⟩) (lt_of_cell e1)).trans e1; have g2 := (hb.cell (p := ⟨b, o + j * 2 + 1, none⟩) (lt_of_cell e2)).trans e2; have HV4 := Lib.hid (HV3.out.trans (hb.mono HV3.out.size)); clear hb))
                clear r0 ht0
                have r1 := fun W : World => run_string_add_sum (P := Tryd.prog) (w := W) (T ++ ⟨#[38]⟩) X (by have := HPL.out; omega)
                have r2 := fun W : World => run_string_add_sum (P := Tryd.prog) (w := W) (T ++ ⟨#[38]⟩ ++ X) ⟨#[61]⟩ (by have := HPL.out; rw [ByteArray.size_append]; show _ + 1 ≤ _; omega)
                have r3 := fun W : World => run_string_add_sum (P := Tryd.prog) (w := W) (T ++ ⟨#[38]⟩ ++ X ++ ⟨#[61]⟩) Y (by have := HPL.out; rw [ByteArray.size_append, ByteArray.size_append]; show _ + 1 + _ ≤ _; omega)
                go_region_held3 (fun W => Below w4.heap.size w4 W ∧ W.cell? ⟨b, o + j * 2, none⟩ = some (.string x) ∧ W.cell? ⟨b, o + j * 2 + 1, none⟩ = some (.string y))
                  (first
                    | exact ⟨(Below.refl _ _).drew, g1, g2⟩
                    | (have hh := ‹Below w4.heap.size w4 _ ∧ _›; exact ⟨hh.1.trans (hb.mono hh.1.size), (hb.cell (p := ⟨b, o + j * 2, none⟩) (lt_of_cell hh.2.1)).trans hh.2.1, (hb.cell (p := ⟨b, o + j * 2 + 1, none⟩) (lt_of_cell hh.2.2)).trans hh.2.2⟩)
                    | go_keep)
                  (first
                    | (go_at_call 21; (with_reducible refine (HE1.out _).mono ?_); rintro e w' ⟨rfl, hb⟩)
                    | (go_at_call 21; (with_reducible refine (HE2.out _).mono ?_); rintro e w' ⟨rfl, hb⟩))
                have HW := Lib.hid (HV4.out.trans (Below.mono (And.left ‹Below w4.heap.size w4 _ ∧ _›) HV4.out.size))
                clear r1 r2 r3
                go_wp2_with fail
                exact ⟨⟨j + 1, by omega, by go_num, HST2.out, by rw [HTX.out, HX.out, HY.out], HW.out⟩, by simp [intOf]; omega⟩
              · have HPJ2 := Lib.hid (show T1 = T from by have := HPJ.out; rwa [if_neg h0] at this)
                rw [HPJ2.out] at HTX HPL
                have hj0 : ¬ (0 : Int) < (j : Int) := by omega
                clear h0
                go_upto_region 12 with (first
                  | (go_at_call 25; (with_reducible refine (HB1.out _).mono ?_); rintro e w3 ⟨rfl, hb⟩; have e1 := (hb.cell (p := ⟨b, o + j * 2, none⟩) (lt_of_cell d1)).trans d1; have e2 := (hb.cell (p := ⟨b, o + j * 2 + 1, none⟩) (lt_of_cell d2)).trans d2; have HV3 := Lib.hid (HBE1.out.trans (hb.mono HBE1.out.size)); clear hb)
                  | (go_at_call 25; (with_reducible refine (HB2.out _).mono ?_); rintro e w4 ⟨rfl, hb⟩; have g1 := (hb.cell (p := ⟨b, o + j * 2, none⟩) (lt_of_cell e1)).trans e1; have g2 := (hb.cell (p := ⟨b, o + j * 2 + 1, none⟩) (lt_of_cell e2)).trans e2; have HV4 := Lib.hid (HV3.out.trans (hb.mono HV3.out.size)); clear hb))
                have r1 := fun W : World => run_string_add_sum (P := Tryd.prog) (w := W) (T) X (by have := HPL.out; omega)
                have r2 := fun W : World => run_string_add_sum (P := Tryd.prog) (w := W) (T ++ X) ⟨#[61]⟩ (by have := HPL.out; rw [ByteArray.size_append]; show _ + 1 ≤ _; omega)
                have r3 := fun W : World => run_string_add_sum (P := Tryd.prog) (w := W) (T ++ X ++ ⟨#[61]⟩) Y (by have := HPL.out; rw [ByteArray.size_append, ByteArray.size_append]; show _ + 1 + _ ≤ _; omega)
                go_region_held3 (fun W => Below w4.heap.size w4 W ∧ W.cell? ⟨b, o + j * 2, none⟩ = some (.string x) ∧ W.cell? ⟨b, o + j * 2 + 1, none⟩ = some (.string y))
                  (first
                    | exact ⟨(Below.refl _ _).drew, g1, g2⟩
                    | (have hh := ‹Below w4.heap.size w4 _ ∧ _›; exact ⟨hh.1.trans (hb.mono hh.1.size), (hb.cell (p := ⟨b, o + j * 2, none⟩) (lt_of_cell hh.2.1)).trans hh.2.1, (hb.cell (p := ⟨b, o + j * 2 + 1, none⟩) (lt_of_cell hh.2.2)).trans hh.2.2⟩)
                    | go_keep)
                  (first
                    | (go_at_call 21; (with_reducible refine (HE1.out _).mono ?_); rintro e w' ⟨rfl, hb⟩)
                    | (go_at_call 21; (with_reducible refine (HE2.out _).mono ?_); rintro e w' ⟨rfl, hb⟩))
                have HW := Lib.hid (HV4.out.trans (Below.mono (And.left ‹Below w4.heap.size w4 _ ∧ _›) HV4.out.size))
                clear r1 r2 r3
                go_wp2_with fail
                exact ⟨⟨j + 1, by omega, by go_num, HST2.out, by rw [HTX.out, HX.out, HY.out], HW.out⟩, by simp [intOf]; omega⟩
    · obtain rfl : j = n := by omega
      have HOK : Hid (okP [] ps = true) := Lib.hid (by rw [HRUN.out, List.drop_of_length_le (by rw [HN.out]; exact Nat.le_refl _)]; rfl)
      have hall : ps.take j = ps := List.take_of_length_le (by rw [HN.out]; exact Nat.le_refl _)
      rw [hall]
      obtain ⟨T, hT⟩ : ∃ T, T = toS (textP ps) := ⟨_, rfl⟩
      have HTS : Hid (T.size = (textP ps).length) := Lib.hid (by rw [hT, size_toS])
      have HTT := Lib.hid hT
      rw [← hT]
      have hi1' : ¬ (j : Int) < (j : Int) := by omega
      clear hlt hall hT
      by_cases hbig : 4096 < (textP ps).length
      · have hg : (4096 : Int) < (T.size : Int) := by have := HTS.out; omega
        have HR : Hid (printedP ps = ([], 2)) := Lib.hid (by rw [HR0.out, HOK.out, if_neg (by decide), if_pos hbig])
        clear hbig
        go_wp2
        go_ret2
        rw [HR.out]
        exact ⟨rfl, HBE.out⟩
      · have hg : ¬ (4096 : Int) < (T.size : Int) := by have := HTS.out; omega
        have HR : Hid (printedP ps = (textP ps, 0)) := Lib.hid (by rw [HR0.out, HOK.out, if_neg (by decide), if_neg hbig])
        clear hbig
        go_wp2
        go_ret2
        rw [HR.out]
        exact ⟨by rw [HTT.out]; rfl, HBE.out⟩
end Go.Proofs.YtcjnhgcopdofhaaDoor
