/- The walk of urlenc's Print. -/
import Derived.Test.YtcjnhgcopdofhaaDoorUrPrMath
import Derived.Test.YtcjnhgcopdofhaaDoorUrParse
import Derived.Deep.RegionHeld3
import Derived.Deep.AppendLies
import Derived.IntWalk
namespace Go.Proofs.YtcjnhgcopdofhaaDoor
open Go Go.RowKit

theorem okP_step (pre : PList) (p : ByteArray × ByteArray) (r : PList) : okP pre (p :: r) = (!(getB pre p.1).2 && rightP p && okP (pre ++ [p]) r) := rfl
def strVals (xs : List ByteArray) : List Value := xs.map Value.string
theorem infoStr : (Tryd.prog.info? 9).map (fun i => (i.zero, i.size, i.bytes)) = some (some (.string ByteArray.empty), 1, 16) := by kernel_rfl
/-- What Print hands back. -/
def PrintTells (r : List Int × Int) (w : World) (e : Ending) (w' : World) : Prop :=
  ∃ v, e = .returned (.tuple #[.string (toS r.1), v]) ∧ ErrTells r.2 (-1) w v w' ∧ Below w.heap.size w w'
set_option maxRecDepth 100000 in
set_option maxHeartbeats 1000000 in
theorem print_many (A : Option Addr) (ps : PList) (n c : Nat) (w : World) (hn : ps.length = n) (h : 32 < n) :
    Calls Tryd.prog 14 #[.slice A n c] w (PrintTells (printedP ps) w) := by
  have HR : Hid (printedP ps = ([], 1)) := Lib.hid (by rw [printedP, if_pos (by omega)])
  have hf : (32 : Int) < (n : Int) := by omega
  rw [HR.out]
  go_enter Tryd.func14, Tryd.ntmps14
  go_wp2
  go_ret2
  exact ⟨_, rfl, .inr (.inl ⟨show (1 : Int) ≠ 0 by decide, rfl, rfl⟩), Below.refl _ _⟩
set_option maxRecDepth 100000 in
set_option maxHeartbeats 4000000 in
theorem print_few (A : Option Addr) (ps : PList) (n c : Nat) (w : World) (hm : Marks w) (hn : ps.length = n) (hnc : n ≤ c) (hl : LiesP w A ps) (hsm : smallP ps) (h : n ≤ 32) :
    Calls Tryd.prog 14 #[.slice A n c] w (PrintTells (printedP ps) w) := by
  have HR0 : Hid (printedP ps = if okP [] ps = false then ([], 1) else if 4096 < (textP ps).length then ([], 2) else (textP ps, 0)) := Lib.hid (by rw [printedP, if_neg (by omega)])
  have hf : ¬ (32 : Int) < (n : Int) := by omega
  have HM := Lib.hid hm
  have HN := Lib.hid hn
  have HL := Lib.hid hl
  have HSM := Lib.hid hsm
  obtain ⟨i0, hi0, hz0, hz1, hz2⟩ := info_parts infoStr
  clear hm hn hl hsm
  go_enter Tryd.func14, Tryd.ntmps14
  go_wp2
  go_loopw [4, 16] (fun lv jv wr => ∃ j : Nat, j ≤ n ∧ jv = .int .i64 (j : Int) ∧ okP [] ps = okP (ps.take j) (ps.drop j) ∧ wr.ownsRow w.heap.size 9 1 lv j (strVals ((ps.take j).map fun p => toS (paramT p))) ∧ Below w.heap.size w wr) (fun _ jv _ => n - (intOf jv).toNat)
  case atStart => exact ⟨0, Nat.zero_le _, rfl, rfl, World.ownsRow_nil _ _ _ _, Below.refl _ _⟩
  case round =>
    obtain ⟨j, hj, rfl, hrun, hown, hbel⟩ := hrel
    have HRUN := Lib.hid hrun
    have HOW := Lib.hid hown
    have HBE := Lib.hid hbel
    clear hrun hown hbel
    by_cases hlt : j < n
    · have hjl : j < ps.length := by rw [HN.out]; exact hlt
      obtain ⟨b, o, rfl, _, c1, c2⟩ := (HL.out.below HBE.out).at hjl
      have hi0' : (0 : Int) ≤ (j : Int) := by omega
      have hi1' : (j : Int) < (n : Int) := by omega
      have hi2' : (j : Int) ≤ (c : Int) := by omega
      have hdr : ps.drop j = ps[j] :: ps.drop (j + 1) := List.drop_eq_getElem_cons hjl
      have htk : ps.take (j + 1) = ps.take j ++ [ps[j]] := by rw [List.take_succ_eq_append_getElem hjl]
      have HST : Hid (okP [] ps = (!(getB (ps.take j) ps[j].1).2 && rightP ps[j] && okP (ps.take (j + 1)) (ps.drop (j + 1)))) := Lib.hid (by rw [HRUN.out, hdr, okP_step, htk])
      have HTX : Hid (strVals ((ps.take (j + 1)).map fun p => toS (paramT p)) = strVals ((ps.take j).map fun p => toS (paramT p)) ++ [.string (toS (paramT ps[j]))]) := Lib.hid (by rw [htk, List.map_append]; simp only [strVals, List.map_append, List.map_cons, List.map_nil])
      obtain ⟨s1, s2⟩ := HSM.out ps[j] (List.getElem_mem hjl)
      have HGET := Lib.hid (fun (c' : Nat) (W : World) (hW : Below w.heap.size w W) => get_any (some ⟨b, o, none⟩) (ps.take j) j c' ps[j].1 W (by rw [List.length_take]; omega) (by omega) ((HL.out.below hW).take j))
      have HPT : Hid (∀ p : ByteArray × ByteArray, toS (paramT p) = toS (escL (strL p.1)) ++ ⟨#[61]⟩ ++ toS (escL (strL p.2))) := Lib.hid fun p => by
        rw [show (⟨#[61]⟩ : ByteArray) = toS [61] from rfl, toS_append (escL_bytes (strL_bd _)) (.of_mem (by decide)), toS_append ((escL_bytes (strL_bd _)).append (.of_mem (by decide))) (escL_bytes (strL_bd _))]
        simp [paramT]
      have HPP : Hid (ps[j] = (ps[j].1, ps[j].2)) := Lib.hid rfl
      obtain ⟨p, hp⟩ : ∃ p, p = ps[j] := ⟨_, rfl⟩
      rw [← hp] at c1 c2 HST HTX s1 s2 HGET
      obtain ⟨x, y⟩ := p
      simp only at c1 c2 HST HTX s1 s2 HGET
      obtain ⟨u, hu⟩ : ∃ u, u = (getB (ps.take j) x).1 := ⟨_, rfl⟩
      have HOW1 := Lib.hid (HOW.out.alloc (.cells #[.string x, .string y] 45))
      have HB1 := Lib.hid (HBE.out.alloc HBE.out.size (.cells #[.string x, .string y] 45))
      have HC01 : Hid ((wr.alloc (.cells #[.string x, .string y] 45)).cell? ⟨wr.heap.size, 0, none⟩ = some (.string x) ∧ (wr.alloc (.cells #[.string x, .string y] 45)).cell? ⟨wr.heap.size, 1, none⟩ = some (.string y) ∧ w.heap.size ≤ wr.heap.size) := Lib.hid ⟨by simp, by simp, HBE.out.size⟩
      clear hp hdr htk hjl HRUN HPP HOW
      go_wp2
      obtain ⟨W1, hW1⟩ : ∃ W, W = wr.alloc (.cells #[.string x, .string y] 45) := ⟨_, rfl⟩
      obtain ⟨q, hq⟩ : ∃ q, q = wr.heap.size := ⟨_, rfl⟩
      rw [← hW1] at HB1 HC01 HOW1 ⊢
      rw [← hq] at HC01 ⊢
      clear hW1 hq HBE c1 c2
      have d0 := HC01.out.1
      cases hg : (getB (ps.take j) x).2 with
      | true =>
        have HR : Hid (printedP ps = ([], 1)) := Lib.hid (by rw [HR0.out, HST.out, hg]; rfl)
        rw [hg, ← hu] at HGET
        clear hg HST hu
        go_region_held3 (fun W => Below W1.heap.size W1 W ∧ W.cell? ⟨q, 0, none⟩ = some (.string x))
          (first
            | exact ⟨(Below.refl _ _).drew, d0⟩
            | (have hh := ‹Below W1.heap.size W1 _ ∧ _›; exact ⟨hh.1.trans (hb.mono hh.1.size), (hb.cell (p := ⟨q, 0, none⟩) (lt_of_cell hh.2)).trans hh.2⟩)
            | go_keep)
          (first | (go_at_call 16; refine (HGET.out _ _ (HB1.out.trans (Below.mono (And.left ‹Below W1.heap.size W1 _ ∧ _›) HB1.out.size))).mono ?_; rintro e w' ⟨rfl, hb⟩))
        have HW := Lib.hid (‹Below W1.heap.size W1 w' ∧ _›.1)
        clear hb
        go_wp2
        go_ret2
        rw [HR.out]
        exact ⟨_, rfl, .inr (.inl ⟨show (1 : Int) ≠ 0 by decide, rfl, rfl⟩), HB1.out.trans (HW.out.mono HB1.out.size)⟩
      | false =>
        rw [hg, ← hu] at HGET
        rw [hg] at HST
        clear hg hu
        go_region_held3 (fun W => Below W1.heap.size W1 W ∧ W.cell? ⟨q, 0, none⟩ = some (.string x))
          (first
            | exact ⟨(Below.refl _ _).drew, d0⟩
            | (have hh := ‹Below W1.heap.size W1 _ ∧ _›; exact ⟨hh.1.trans (hb.mono hh.1.size), (hb.cell (p := ⟨q, 0, none⟩) (lt_of_cell hh.2)).trans hh.2⟩)
            | go_keep)
          (first | (go_at_call 16; refine (HGET.out _ _ (HB1.out.trans (Below.mono (And.left ‹Below W1.heap.size W1 _ ∧ _›) HB1.out.size))).mono ?_; rintro e w' ⟨rfl, hb⟩))
        have hw := ‹Below W1.heap.size W1 w' ∧ _›.1
        have d0' := (hw.cell (p := ⟨q, 0, none⟩) (lt_of_cell HC01.out.1)).trans HC01.out.1
        have d1' := (hw.cell (p := ⟨q, 1, none⟩) (lt_of_cell HC01.out.2.1)).trans HC01.out.2.1
        have HW := Lib.hid hw
        have HB2 := Lib.hid (HB1.out.trans (hw.mono HB1.out.size))
        have HRI := Lib.hid (right_any x y w' (HM.out.below HB2.out) (by omega) (by omega))
        clear hb hw d0
        cases hr : rightP (x, y) with
        | false =>
          have HR : Hid (printedP ps = ([], 1)) := Lib.hid (by rw [HR0.out, HST.out, hr]; rfl)
          rw [hr] at HRI
          clear hr HST
          go_wp2_with fail
          refine HRI.out.mono ?_
          rintro e w3 ⟨rfl, hb⟩
          have HB3 := Lib.hid (HB2.out.trans (hb.mono HB2.out.size))
          clear hb
          go_wp2
          go_ret2
          rw [HR.out]
          exact ⟨_, rfl, .inr (.inl ⟨show (1 : Int) ≠ 0 by decide, rfl, rfl⟩), HB3.out⟩
        | true =>
          rw [hr] at HRI HST
          have HST2 : Hid (okP [] ps = okP (ps.take (j + 1)) (ps.drop (j + 1))) := Lib.hid (by rw [HST.out]; simp)
          clear hr HST
          go_wp2_with fail
          refine HRI.out.mono ?_
          rintro e w3 ⟨rfl, hb⟩
          have HB3 := Lib.hid (HB2.out.trans (hb.mono HB2.out.size))
          have HOW3 := Lib.hid (HOW1.out.kept (row := none) (grownBy_of_below (HW.out.trans (hb.mono HW.out.size)) none) (Classical.em _))
          have d0 := (hb.cell (p := ⟨q, 0, none⟩) (lt_of_cell d0')).trans d0'
          have d1 := (hb.cell (p := ⟨q, 1, none⟩) (lt_of_cell d1')).trans d1'
          clear hb d0' d1'
          have HE1 := Lib.hid (fun W : World => escape_any x W (by omega))
          have HE2 := Lib.hid (fun W : World => escape_any y W (by omega))
          have hx9 := escL_len (strL x)
          have hy9 := escL_len (strL y)
          rw [length_strL] at hx9 hy9
          have hX9 : (toS (escL (strL x))).size ≤ 9000 := by rw [size_toS]; omega
          have hY9 : (toS (escL (strL y))).size ≤ 9000 := by rw [size_toS]; omega
          have HPX : Hid (toS (paramT (x, y)) = toS (escL (strL x)) ++ ⟨#[61]⟩ ++ toS (escL (strL y))) := Lib.hid (HPT.out (x, y))
          obtain ⟨X, hX⟩ : ∃ X, X = toS (escL (strL x)) := ⟨_, rfl⟩
          obtain ⟨Y, hY⟩ : ∃ Y, Y = toS (escL (strL y)) := ⟨_, rfl⟩
          rw [← hX] at HE1 HPX hX9
          rw [← hY] at HE2 HPX hY9
          have r1 := fun W : World => run_string_add_sum (P := Tryd.prog) (w := W) X ⟨#[61]⟩ (by show X.size + 1 ≤ _; omega)
          have r2 := fun W : World => run_string_add_sum (P := Tryd.prog) (w := W) (X ++ ⟨#[61]⟩) Y (by rw [ByteArray.size_append]; show X.size + 1 + Y.size ≤ _; omega)
          clear hX hY hx9 hy9
          go_wp2_with fail
          go_region_law (first
            | (go_simp; go_at_call 20; (with_reducible refine (HE1.out _).mono ?_); rintro e w4 ⟨rfl, hb4⟩; have e1 := (hb4.cell (p := ⟨q, 1, none⟩) (lt_of_cell d1)).trans d1; have HB4 := Lib.hid (((Below.refl w3.heap.size w3).drew).trans hb4); clear hb4)
            | (go_simp; go_at_call 20; (with_reducible refine (HE2.out _).mono ?_); rintro e w5 ⟨rfl, hb5⟩; have HB5 := Lib.hid (HB4.out.trans (hb5.mono HB4.out.size)); have hz5 : w.heap.size ≤ w5.heap.size := Nat.le_trans HB3.out.size HB5.out.size; clear hb5)
            | (refine step_append_lies _ (by rfl) _ _ _ (by rfl) w.heap.size 9 i0 (.string ByteArray.empty) 1 16 Tryd.underlying47 hi0 hz0 hz1 hz2 rfl (by omega) u4 j (strVals (List.map (fun p => toS (paramT p)) (List.take j ps))) (by rfl) ((HOW3.out.kept (row := none) (grownBy_of_below HB5.out none) (Classical.em _)).alloc _) ⟨w5.heap.size, 0, none⟩ 1 1 [.string (X ++ ⟨#[61]⟩ ++ Y)] (by rfl) (by rfl) (World.news_of_block (cs := #[.string (X ++ ⟨#[61]⟩ ++ Y)]) (t := 9) (fr := (0, 0)) (heap_alloc_new w5 _)) (by simp [Value.oneCell']) (by omega) (by unfold maxLen; omega) (by omega) (by simp; omega) (w5.heap.size + 1) (by simp) ?_; intro gg cap w6 hown6 hgrow hat hlt6; try go_frame))
          all_goals
            have HF : Hid (w6.ownsRow w.heap.size 9 1 (.slice (some ⟨gg, 0, none⟩) (j + 1) cap) (j + 1) (strVals ((ps.take (j + 1)).map fun p => toS (paramT p))) ∧ Below w.heap.size w w6) := Lib.hid ⟨by rw [HTX.out, HPX.out]; exact hown6,
              ((HB3.out.trans (HB5.out.mono HB3.out.size)).alloc hz5 _).grown hgrow (by simp; omega) (own_ge HOW3.out)⟩
            clear hown6 hgrow hat hlt6 r1 r2 d0 d1 e1 hz5
            go_wp2_with fail
            go_roundw
            case rel => exact ⟨j + 1, by omega, by go_num, HST2.out, HF.out.1, HF.out.2⟩
            case measure => simp [intOf]; omega
    · obtain rfl : j = n := by omega
      have HOK : Hid (okP [] ps = true) := Lib.hid (by rw [HRUN.out, List.drop_of_length_le (by rw [HN.out]; exact Nat.le_refl _)]; rfl)
      have hall : ps.take j = ps := List.take_of_length_le (by rw [HN.out]; exact Nat.le_refl _)
      have hown := HOW.out
      rw [hall] at hown
      have HTL : Hid ((textP ps).length ≤ 600000) := Lib.hid (by
        have := textP_len ps HSM.out
        rw [HN.out] at this; omega)
      have hi1' : ¬ (j : Int) < (j : Int) := by omega
      have HTB := Lib.hid (textP_bytes ps)
      have HJ : Hid (∀ v, wr.ownsRow w.heap.size 9 1 v j (strVals (ps.map fun p => toS (paramT p))) → ∃ A c, v = .slice A j c ∧ Calls Tryd.prog 28 #[v, .string ⟨#[38]⟩] wr fun e w' => e = .returned (.string (toS (textP ps))) ∧ Below wr.heap.size wr w') := Lib.hid fun v hv => by
        have hlen : (ps.map fun p => toS (paramT p)).length = j := by rw [List.length_map, HN.out]
        have hjn := join_text _ ps rfl
        rcases hv.2 with ⟨rfl, h0⟩ | ⟨g, cap, cur, rfl, hg, hcell, hle, hm, _⟩
        · subst h0
          refine ⟨none, 0, rfl, (Tryd.strings_Join_none none 0 ⟨#[38]⟩ wr).mono ?_⟩
          rintro e w' ⟨rfl, rfl⟩
          have hp : ps = [] := List.eq_nil_of_length_eq_zero HN.out
          subst hp
          exact ⟨rfl, Below.refl _ _⟩
        · refine ⟨_, _, rfl, ?_⟩
          have hc := Tryd.strings_Join g 0 cap (ps.map fun p => toS (paramT p)) ⟨#[38]⟩ wr (fun i t hi => by
              have h1 := hv.cells (g := g) rfl i (.string t) (by rw [strVals, List.getElem?_map, hi]; rfl)
              rwa [Addr.add_mid] at h1) (hv.lt g rfl).2 (by rw [hlen]; omega) (by rw [hlen]; exact hle) (by
              have := congrArg ByteArray.size hjn
              rw [size_toS] at this
              have e : (⟨(Lib.join (List.map (fun x => x.data.toList) (ps.map fun p => toS (paramT p))) [38]).toArray⟩ : ByteArray).size = (Lib.join (List.map (fun x => x.data.toList) (ps.map fun p => toS (paramT p))) [38]).length := by simp [ByteArray.size]
              have := HTL.out
              show (Lib.join _ [38]).length ≤ _
              omega)
          rw [hlen] at hc
          refine hc.mono ?_
          rintro e w' ⟨rfl, hb⟩
          exact ⟨by rw [← hjn], hb⟩
      obtain ⟨A', c', rfl, hcall⟩ := HJ.out _ hown
      have HJC := Lib.hid hcall
      obtain ⟨T, hT⟩ : ∃ T, T = toS (textP ps) := ⟨_, rfl⟩
      have HTS : Hid (T.size = (textP ps).length) := Lib.hid (by rw [hT, size_toS])
      rw [← hT] at HJC
      have HTT := Lib.hid hT
      clear hlt hall hown hcall hT HJ
      by_cases hbig : 4096 < (textP ps).length
      · have hg : (4096 : Int) < (T.size : Int) := by have := HTS.out; omega
        have HR : Hid (printedP ps = ([], 2)) := Lib.hid (by rw [HR0.out, HOK.out, if_neg (by decide), if_pos hbig])
        clear hbig
        go_wp2_with fail
        refine HJC.out.mono ?_
        rintro e w2 ⟨rfl, hb⟩
        have HB2 := Lib.hid (HBE.out.trans (hb.mono HBE.out.size))
        clear hb
        go_wp2
        go_ret2
        rw [HR.out]
        exact ⟨_, rfl, .inr (.inl ⟨show (2 : Int) ≠ 0 by decide, rfl, rfl⟩), HB2.out⟩
      · have hg : ¬ (4096 : Int) < (T.size : Int) := by have := HTS.out; omega
        have HR : Hid (printedP ps = (textP ps, 0)) := Lib.hid (by rw [HR0.out, HOK.out, if_neg (by decide), if_neg hbig])
        clear hbig
        go_wp2_with fail
        refine HJC.out.mono ?_
        rintro e w2 ⟨rfl, hb⟩
        have HB2 := Lib.hid (HBE.out.trans (hb.mono HBE.out.size))
        clear hb
        go_wp2
        go_ret2
        rw [HR.out]
        exact ⟨_, by rw [HTT.out]; rfl, .inl ⟨rfl, rfl, rfl⟩, HB2.out⟩
end Go.Proofs.YtcjnhgcopdofhaaDoor
