/- PolRfP: merged. -/
import Derived.Test.YtcjfealalokjaaaGreatDoorPa31
set_option linter.all false
namespace Go.Proofs.YtcjfealalokjaaaGreatDoor
open Go Go.RowKit
theorem scopesL_snoc {l : List ByteArray} {s : ByteArray} (h : l ≠ []) : scopesL (l ++ [s]) = scopesL l ++ ([44, 32] ++ quoteL s) := by
  cases l with
  | nil => exact absurd rfl h
  | cons a r =>
    show scopesL (a :: (r ++ [s])) = _
    rw [scopesL, scopesL, List.flatMap_append]
    simp
theorem join_rule0 {l : List RuleM} {i : Nat} (hi : i < l.length) (h0 : i = 0) : joinL ((l.take (i + 1)).map (ruleL 200)) = joinL ((l.take i).map (ruleL 200)) ++ ruleL 200 l[i] := by
  subst h0
  rw [List.take_succ_eq_append_getElem hi, List.take_zero]
  rfl
theorem join_rule1 {l : List RuleM} {i : Nat} (hi : i < l.length) (h0 : ¬ i = 0) : joinL ((l.take (i + 1)).map (ruleL 200)) = joinL ((l.take i).map (ruleL 200)) ++ ([10] ++ ruleL 200 l[i]) := by
  rw [List.take_succ_eq_append_getElem hi, List.map_append]
  refine joinL_snoc _ _ fun e => ?_
  have := congrArg List.length e
  rw [List.length_map, List.length_take, List.length_nil] at this
  omega
set_option maxRecDepth 100000 in
set_option maxHeartbeats 16000000 in
theorem refPrintP_any {B : Nat} {l : List RuleM} {W : World} {v : Value} (hB : B ≤ W.heap.size) (hx : ∀ x ∈ l, LookR x) (hr : rightP l = true) (hv : RepP W (fun k => k < B) l v) :
    Calls Tryz.prog 19 #[v] W fun e w' => e = .returned (.string (toS (printL 200 l))) ∧ Below W.heap.size W w' := by
  have HBL := Lib.hid (right_bl hr hx)
  obtain ⟨_, hgr⟩ := right_good hr
  obtain ⟨A, c, rfl, hl, hcc⟩ := hv
  rw [← joinL_print] at HBL ⊢
  have HC := Lib.hid hcc
  have HBW := Lib.hid hB
  have HLK := Lib.hid hx
  have HGR := Lib.hid hgr
  obtain ⟨n, hn⟩ : ∃ n, n = l.length := ⟨_, rfl⟩
  have HN := Lib.hid hn
  rw [← hn] at hl ⊢
  obtain ⟨R, hR⟩ : ∃ R, R = toS (joinL (l.map (ruleL 200))) := ⟨_, rfl⟩
  rw [← hR]
  have HR0 := Lib.hid hR
  have HACC : Hid (∀ i, Bytes (joinL ((l.take i).map (ruleL 200))) ∧ (joinL ((l.take i).map (ruleL 200))).length ≤ 200000000) := Lib.hid (fun i => by
    have h1 := joinL_print 200 (l.take i)
    have h2 := print_bl (l := l.take i) (fun x hxl => hx x (List.mem_of_mem_take hxl)) (fun x hxl => (goodR_whens (hgr x (List.mem_of_mem_take hxl))).2)
    rw [← h1] at h2
    refine ⟨h2.1, ?_⟩
    have h3 := joinL_le (l.map (ruleL 200)) i
    rw [← List.map_take] at h3
    exact Nat.le_trans h3 HBL.out.2)
  clear hcc hn hB hR hx hr hgr
  go_enter Tryz.func19, Tryz.ntmps19
  go_wp2
  go_loopw [3, 4] (fun u v wr => ∃ i : Nat, i ≤ n ∧ v = .int .i64 (i : Int) ∧ u = .string (toS (joinL ((l.take i).map (ruleL 200)))) ∧ Below W.heap.size W wr) (fun _ v _ => n - (intOf v).toNat)
  case atStart => exact ⟨0, Nat.zero_le _, rfl, rfl, Below.refl _ _⟩
  case round =>
    obtain ⟨i, hi, rfl, rfl, hbel⟩ := hrel
    have BB := Lib.hid hbel
    obtain ⟨ab, al⟩ := HACC.out i
    by_cases hlt : i < n
    · have i1 : (i : Int) < (n : Int) := by omega
      have i2 : (0 : Int) ≤ (i : Int) := by omega
      have hil : i < l.length := by rw [← HN.out]; exact hlt
      obtain ⟨g, o, rfl, hgB, hg, hre⟩ := HC.out (fun e => by rw [e] at hil; exact absurd hil (Nat.not_lt_zero _))
      obtain ⟨a0, a1, a2, a3, hrx, k0, k1, k2, k3⟩ := hre i hil
      obtain ⟨vs, vw, e, ⟨SA, cs, rfl, hsn, hsc⟩, ⟨AW, cw, rfl, hwn, hwc⟩⟩ := hrx
      simp only [Value.agg.injEq, Array.mk.injEq, List.cons.injEq, and_true] at e
      obtain ⟨rfl, rfl, rfl, rfl⟩ := e
      obtain ⟨lk1, lk2, lk3, lk4⟩ := HLK.out l[i] (List.getElem_mem hil)
      have hgw := (goodR_whens (HGR.out l[i] (List.getElem_mem hil))).2
      have HJ0 := Lib.hid (join_rule0 hil)
      have HJ1 := Lib.hid (join_rule1 hil)
      obtain ⟨x, hx⟩ : ∃ x, x = l[i] := ⟨_, rfl⟩
      rw [← hx] at k0 k1 k2 hsn hsc hwn hwc lk1 lk2 lk3 lk4 hgw HJ0 HJ1
      obtain ⟨m, hm⟩ : ∃ m, m = x.scopes.length := ⟨_, rfl⟩
      obtain ⟨q, hq⟩ : ∃ q, q = x.whens.length := ⟨_, rfl⟩
      rw [← hm] at k1 hsn
      rw [← hq] at k2 hwn
      have HM := Lib.hid hm
      have HQ := Lib.hid hq
      have HSC := Lib.hid hsc
      have HWC := Lib.hid hwc
      have HL1 := Lib.hid lk1
      have HL2 := Lib.hid lk2
      have HL3 := Lib.hid lk3
      have HL4 := Lib.hid lk4
      have HGW := Lib.hid hgw
      have HK := Lib.hid (And.intro hg (And.intro k1 k2))
      have HK0 := Lib.hid k0
      obtain ⟨acc, hacc⟩ : ∃ a, a = joinL ((l.take i).map (ruleL 200)) := ⟨_, rfl⟩
      rw [← hacc] at ab al HJ0 HJ1 ⊢
      have HAB := Lib.hid ab
      obtain ⟨T, hT⟩ : ∃ Q, Q = toS acc := ⟨_, rfl⟩
      have hTs : T.size ≤ 200000000 := by rw [hT, size_toS]; exact al
      have HT := Lib.hid hT
      have HSZ := Lib.hid hTs
      rw [← hT]
      clear hre hsc hwc k0 k1 k2 k3 hx hm hq hil lk1 lk2 lk3 lk4 hgw hbel hacc ab al hT
      by_cases hi0 : i = 0
      · have j1 : ¬ (0 : Int) < (i : Int) := by omega
        have HJN : Hid (joinL ((l.take (i + 1)).map (ruleL 200)) = acc ++ (ruleL 200 x)) := Lib.hid (HJ0.out hi0)
        clear hi0
        cases hd : x.deny with
        | false =>
          have z0 : wr.cell? ⟨g, o + i * 4, none⟩ = some (.bool false) := by rw [← hd]; exact (BB.out.cell (p := ⟨g, _, none⟩) HK.out.1).trans HK0.out
          have HDN := Lib.hid hd
          clear hd
          have hA0 : T.size + (⟨#[112, 101, 114, 109, 105, 116]⟩ : ByteArray).size ≤ 9223372036854775807 := by show T.size + 6 ≤ _; omega
          have HP0 : Hid (T ++ (⟨#[112, 101, 114, 109, 105, 116]⟩ : ByteArray) = toS (acc ++ [112, 101, 114, 109, 105, 116])) := Lib.hid (by
            rw [HT.out, show (⟨#[112, 101, 114, 109, 105, 116]⟩ : ByteArray) = toS [112, 101, 114, 109, 105, 116] from rfl, toS_append HAB.out (.of_mem (by decide))]
            try simp)
          obtain ⟨Pr, hPr⟩ : ∃ Q, Q = acc ++ [112, 101, 114, 109, 105, 116] := ⟨_, rfl⟩
          rw [← hPr] at HP0
          have HPB : Hid (Bytes Pr ∧ Pr.length ≤ 210000020) := Lib.hid (by
            rw [hPr]
            refine ⟨HAB.out.append (.of_mem (by decide)), ?_⟩
            have := HSZ.out
            rw [HT.out, size_toS] at this
            rw [List.length_append]; simp only [List.length_cons, List.length_nil]; omega)
          have HPR := Lib.hid hPr
          clear hPr
          go_wp2
          rw [HP0.out]
          clear z0
          go_loopw [3, 5] (fun u v wr => ∃ k : Nat, k ≤ m ∧ v = .int .i64 (k : Int) ∧ u = .string (toS (Pr ++ scopesL (x.scopes.take k))) ∧ Below W.heap.size W wr) (fun _ v _ => m - (intOf v).toNat)
          case atStart => exact ⟨0, Nat.zero_le _, rfl, by rw [List.take_zero]; simp [scopesL], BB.out⟩
          case round =>
            obtain ⟨k, hk, rfl, rfl, hbel⟩ := hrel
            have BB := Lib.hid hbel
            have z1 : wr.cell? ⟨g, o + i * 4 + 1, none⟩ = some (.slice SA m cs) := (hbel.cell (p := ⟨g, _, none⟩) HK.out.1).trans HK.out.2.1
            have z2 : wr.cell? ⟨g, o + i * 4 + 2, none⟩ = some (.slice AW q cw) := (hbel.cell (p := ⟨g, _, none⟩) HK.out.1).trans HK.out.2.2
            have HSL := Lib.hid (scopes_bl (l := x.scopes.take k) (fun t ht => HL2.out t (List.mem_of_mem_take ht)))
            have HTL : Hid ((x.scopes.take k).length ≤ 40) := Lib.hid (by rw [List.length_take]; have := HL1.out; omega)
            obtain ⟨Sk, hSk⟩ : ∃ Q, Q = scopesL (x.scopes.take k) := ⟨_, rfl⟩
            rw [← hSk] at HSL ⊢
            have HSK := Lib.hid hSk
            have HCB : Hid (Bytes (Pr ++ Sk)) := Lib.hid (HPB.out.1.append HSL.out.1)
            obtain ⟨C, hC⟩ : ∃ Q, Q = toS (Pr ++ Sk) := ⟨_, rfl⟩
            have hCs : C.size ≤ 211000000 := by
              rw [hC, size_toS, List.length_append]
              have h1 := HPB.out.2; have h2 := HSL.out.2; have h3 := HTL.out
              omega
            have HCC := Lib.hid hC
            rw [← hC]
            clear hC hSk
            by_cases hkm : k < m
            · have kl : k < x.scopes.length := by rw [← HM.out]; exact hkm
              have k1 : (k : Int) < (m : Int) := by omega
              have k2 : (0 : Int) ≤ (k : Int) := by omega
              obtain ⟨h, r2, rfl, _, hh, hcs⟩ := HSC.out (fun e => by rw [e] at kl; exact absurd kl (Nat.not_lt_zero _))
              obtain ⟨t, ht, _, l1⟩ := hcs k kl
              have htm : t ∈ x.scopes := List.mem_of_getElem? ht
              rw [List.getElem?_eq_getElem kl] at ht
              injection ht with ht
              have y1 := (hbel.cell (p := ⟨h, r2 + k, none⟩) hh).trans l1
              have hts := HL2.out t htm
              have HQT := Lib.hid (refQuoteX_any t wr (by omega))
              have hbq := bl_quote t
              have HTK : Hid (x.scopes.take (k + 1) = x.scopes.take k ++ [t]) := Lib.hid (by rw [List.take_succ_eq_append_getElem kl, ht])
              obtain ⟨qq, hqq⟩ : ∃ q, q = (quoteN (strL t)).1 := ⟨_, rfl⟩
              obtain ⟨qb, hqb⟩ : ∃ q, q = (quoteN (strL t)).2 := ⟨_, rfl⟩
              have hbq2 : BL (2 * t.size + 2) qq := by rw [hqq]; exact hbq
              rw [← hqq, ← hqb] at HQT
              have HQQ : Hid (qq = quoteL t) := Lib.hid hqq
              have HQBY := Lib.hid hbq2.1
              obtain ⟨V, hV⟩ : ∃ Q, Q = toS qq := ⟨_, rfl⟩
              have hVs : V.size ≤ 2002 := by rw [hV, size_toS]; have := hbq2.2; omega
              rw [← hV] at HQT
              have HV := Lib.hid hV
              clear hcs l1 hbel ht htm hqq hqb hbq hbq2 hV kl hts
              by_cases hk0 : k = 0
              · have e0 : ((k : Int) == 0) = true := by rw [hk0]; rfl
                have hN1 : C.size + (⟨#[32, 115, 99, 111, 112, 101, 32]⟩ : ByteArray).size ≤ 9223372036854775807 := by show C.size + 7 ≤ _; omega
                have hN2 : (C ++ (⟨#[32, 115, 99, 111, 112, 101, 32]⟩ : ByteArray)).size + V.size ≤ 9223372036854775807 := by rw [ByteArray.size_append]; show C.size + 7 + V.size ≤ _; omega
                have HNX : Hid (C ++ (⟨#[32, 115, 99, 111, 112, 101, 32]⟩ : ByteArray) ++ V = toS (Pr ++ scopesL (x.scopes.take (k + 1)))) := Lib.hid (by
                  have bs : Bytes [32, 115, 99, 111, 112, 101, 32] := .of_mem (by decide)
                  have hS0 : Sk = [] := by rw [HSK.out, hk0]; rfl
                  rw [HTK.out, HCC.out, HV.out, show (⟨#[32, 115, 99, 111, 112, 101, 32]⟩ : ByteArray) = toS [32, 115, 99, 111, 112, 101, 32] from rfl, toS_append HCB.out bs, toS_append (HCB.out.append bs) HQBY.out, hS0, hk0, HQQ.out]
                  simp [scopesL])
                have HK0 := Lib.hid hk0
                clear hk0
                go_wp2_with fail
                (with_reducible refine HQT.out.mono ?_)
                rintro e w5 ⟨rfl, hb5⟩
                have BB := Lib.hid (BB.out.trans (hb5.mono BB.out.size))
                clear hb5 y1 z1 z2
                go_wp2
                go_roundw
                case rel => exact ⟨k + 1, hkm, by go_num, by rw [HNX.out], BB.out⟩
                case measure => simp [intOf]; omega
              · have e0 : ((k : Int) == 0) = false := by rw [beq_eq_false_iff_ne]; omega
                have hN1 : C.size + (⟨#[44, 32]⟩ : ByteArray).size ≤ 9223372036854775807 := by show C.size + 2 ≤ _; omega
                have hN2 : (C ++ (⟨#[44, 32]⟩ : ByteArray)).size + V.size ≤ 9223372036854775807 := by rw [ByteArray.size_append]; show C.size + 2 + V.size ≤ _; omega
                have HNX : Hid (C ++ (⟨#[44, 32]⟩ : ByteArray) ++ V = toS (Pr ++ scopesL (x.scopes.take (k + 1)))) := Lib.hid (by
                  have bs : Bytes [44, 32] := .of_mem (by decide)
                  have hne : x.scopes.take k ≠ [] := fun e => by
                    have := congrArg List.length e
                    rw [List.length_take, ← HM.out, List.length_nil] at this
                    omega
                  rw [HTK.out, HCC.out, HV.out, show (⟨#[44, 32]⟩ : ByteArray) = toS [44, 32] from rfl, toS_append HCB.out bs, toS_append (HCB.out.append bs) HQBY.out, scopesL_snoc hne, ← HSK.out, HQQ.out]
                  simp)
                clear hk0
                go_wp2_with fail
                (with_reducible refine HQT.out.mono ?_)
                rintro e w5 ⟨rfl, hb5⟩
                have BB := Lib.hid (BB.out.trans (hb5.mono BB.out.size))
                clear hb5 y1 z1 z2
                go_wp2
                go_roundw
                case rel => exact ⟨k + 1, hkm, by go_num, by rw [HNX.out], BB.out⟩
                case measure => simp [intOf]; omega
            · obtain rfl : k = m := by omega
              have hge : ¬ (k : Int) < (k : Int) := by omega
              have HSA : Hid (Sk = scopesL x.scopes) := Lib.hid (by rw [HSK.out, List.take_of_length_le (by rw [HM.out]; exact Nat.le_refl _)])
              by_cases hq0 : q = 0
              · have q1 : ¬ (0 : Int) < (q : Int) := by omega
                have hN1 : C.size + (⟨#[59]⟩ : ByteArray).size ≤ 9223372036854775807 := by show C.size + 1 ≤ _; omega
                have HNX : Hid (C ++ (⟨#[59]⟩ : ByteArray) = toS (joinL ((l.take (i + 1)).map (ruleL 200)))) := Lib.hid (by
                  have hw : x.whens = [] := List.eq_nil_of_length_eq_zero (by rw [← HQ.out, hq0])
                  have bs : Bytes [59] := .of_mem (by decide)
                  rw [HCC.out, show (⟨#[59]⟩ : ByteArray) = toS [59] from rfl, toS_append HCB.out bs, HJN.out, HPR.out, HSA.out]
                  unfold ruleL
                  rw [HDN.out, hw, show strL (headW false) = [112, 101, 114, 109, 105, 116] from by decide]
                  simp [whenL])
                clear hbel hq0 hkm hk
                go_wp2
                go_roundw
                case rel => exact ⟨i + 1, hlt, by go_num, by rw [HNX.out], BB.out⟩
                case measure => simp [intOf]; omega
              · have q1 : (0 : Int) < (q : Int) := by omega
                obtain ⟨h, r2, rfl, _, hh, hes⟩ := HWC.out (fun e => hq0 (by rw [HQ.out, e]; rfl))
                obtain ⟨y, v, hyk, hry, hf⟩ := hes.atX 0 (by rw [← HQ.out]; omega)
                have hym : y ∈ x.whens := List.mem_of_getElem? hyk
                have hyg := HGW.out y hym
                have hyn : nodesE y ≤ 1500 := by have := nodes_mem hym; have := HL4.out; omega
                have HCY := Lib.hid (text_any 200 y 1 hyg (HL3.out y hym) hyn B wr v (Nat.le_trans HBW.out hbel.size) (hry.under HBW.out hbel))
                rw [show ((1 : Nat) : Int) = 1 from rfl] at HCY
                obtain ⟨ty1, ty2⟩ := text_size hyg (HL3.out y hym) hyn 1
                obtain ⟨Y, y3, yc, rfl, hy3, l0, l1, l2, l3, l4⟩ := hry.cells hf
                rw [Nat.zero_mul, Nat.add_zero] at l0 l1 l2 l3 l4
                obtain ⟨y0, hn0⟩ : ∃ t, t = y.op := ⟨_, rfl⟩
                obtain ⟨y1, hn1⟩ : ∃ t, t = y.text := ⟨_, rfl⟩
                obtain ⟨y2, hn2⟩ : ∃ t, t = y.num := ⟨_, rfl⟩
                obtain ⟨y4, hn4⟩ : ∃ t, t = y.pos := ⟨_, rfl⟩
                rw [← hn0, ← hn1, ← hn2, ← hn4] at HCY
                rw [← hn0] at l0
                rw [← hn1] at l1
                rw [← hn2] at l2
                rw [← hn4] at l4
                have u0 := (hbel.cell (p := ⟨h, r2, none⟩) hh).trans l0
                have u1 := (hbel.cell (p := ⟨h, r2 + 1, none⟩) hh).trans l1
                have u2 := (hbel.cell (p := ⟨h, r2 + 2, none⟩) hh).trans l2
                have u3 := (hbel.cell (p := ⟨h, r2 + 3, none⟩) hh).trans l3
                have u4 := (hbel.cell (p := ⟨h, r2 + 4, none⟩) hh).trans l4
                obtain ⟨tt, htt⟩ : ∃ t, t = textF 200 y 1 := ⟨_, rfl⟩
                rw [← htt] at HCY ty1 ty2
                obtain ⟨V, hV⟩ : ∃ Q, Q = toS tt := ⟨_, rfl⟩
                rw [← hV] at HCY ty2
                have hN1 : C.size + (⟨#[32, 119, 104, 101, 110, 32]⟩ : ByteArray).size ≤ 9223372036854775807 := by show C.size + 6 ≤ _; omega
                have hN2 : (C ++ (⟨#[32, 119, 104, 101, 110, 32]⟩ : ByteArray)).size + V.size ≤ 9223372036854775807 := by rw [ByteArray.size_append]; show C.size + 6 + V.size ≤ _; omega
                have hN3 : (C ++ (⟨#[32, 119, 104, 101, 110, 32]⟩ : ByteArray) ++ V).size + (⟨#[59]⟩ : ByteArray).size ≤ 9223372036854775807 := by rw [ByteArray.size_append, ByteArray.size_append]; show C.size + 6 + V.size + 1 ≤ _; omega
                have HNX : Hid (C ++ (⟨#[32, 119, 104, 101, 110, 32]⟩ : ByteArray) ++ V ++ (⟨#[59]⟩ : ByteArray) = toS (joinL ((l.take (i + 1)).map (ruleL 200)))) := Lib.hid (by
                  have hw : ∃ r, x.whens = y :: r := by
                    cases hx : x.whens with
                    | nil => rw [hx] at hym; cases hym
                    | cons a r =>
                      rw [hx] at hyk
                      simp at hyk
                      exact ⟨r, by rw [hyk]⟩
                  obtain ⟨r, hw⟩ := hw
                  have b1 : Bytes [32, 119, 104, 101, 110, 32] := .of_mem (by decide)
                  have b2 : Bytes [59] := .of_mem (by decide)
                  rw [HCC.out, hV, show (⟨#[32, 119, 104, 101, 110, 32]⟩ : ByteArray) = toS [32, 119, 104, 101, 110, 32] from rfl, show (⟨#[59]⟩ : ByteArray) = toS [59] from rfl, toS_append HCB.out b1, toS_append (HCB.out.append b1) ty1, toS_append ((HCB.out.append b1).append ty1) b2, HJN.out, HPR.out, HSA.out]
                  unfold ruleL
                  rw [HDN.out, hw, show strL (headW false) = [112, 101, 114, 109, 105, 116] from by decide, htt]
                  simp [whenL])
                clear hbel hq0 hkm hk hes hyk hry hf hym hyg hyn hy3 ty1 htt hV l0 l1 l2 l3 l4 hn0 hn1 hn2 hn4
                go_wp2_with fail
                (with_reducible refine HCY.out.mono ?_)
                rintro e w5 ⟨rfl, hb5⟩
                have BB := Lib.hid (BB.out.trans (hb5.mono BB.out.size))
                clear hb5 z1 z2 u0 u1 u2 u3 u4
                go_wp2
                go_roundw
                case rel => exact ⟨i + 1, hlt, by go_num, by rw [HNX.out], BB.out⟩
                case measure => simp [intOf]; omega
        | true =>
          have z0 : wr.cell? ⟨g, o + i * 4, none⟩ = some (.bool true) := by rw [← hd]; exact (BB.out.cell (p := ⟨g, _, none⟩) HK.out.1).trans HK0.out
          have HDN := Lib.hid hd
          clear hd
          have hA0 : T.size + (⟨#[100, 101, 110, 121]⟩ : ByteArray).size ≤ 9223372036854775807 := by show T.size + 4 ≤ _; omega
          have HP0 : Hid (T ++ (⟨#[100, 101, 110, 121]⟩ : ByteArray) = toS (acc ++ [100, 101, 110, 121])) := Lib.hid (by
            rw [HT.out, show (⟨#[100, 101, 110, 121]⟩ : ByteArray) = toS [100, 101, 110, 121] from rfl, toS_append HAB.out (.of_mem (by decide))]
            try simp)
          obtain ⟨Pr, hPr⟩ : ∃ Q, Q = acc ++ [100, 101, 110, 121] := ⟨_, rfl⟩
          rw [← hPr] at HP0
          have HPB : Hid (Bytes Pr ∧ Pr.length ≤ 210000020) := Lib.hid (by
            rw [hPr]
            refine ⟨HAB.out.append (.of_mem (by decide)), ?_⟩
            have := HSZ.out
            rw [HT.out, size_toS] at this
            rw [List.length_append]; simp only [List.length_cons, List.length_nil]; omega)
          have HPR := Lib.hid hPr
          clear hPr
          go_wp2
          rw [HP0.out]
          clear z0
          go_loopw [3, 5] (fun u v wr => ∃ k : Nat, k ≤ m ∧ v = .int .i64 (k : Int) ∧ u = .string (toS (Pr ++ scopesL (x.scopes.take k))) ∧ Below W.heap.size W wr) (fun _ v _ => m - (intOf v).toNat)
          case atStart => exact ⟨0, Nat.zero_le _, rfl, by rw [List.take_zero]; simp [scopesL], BB.out⟩
          case round =>
            obtain ⟨k, hk, rfl, rfl, hbel⟩ := hrel
            have BB := Lib.hid hbel
            have z1 : wr.cell? ⟨g, o + i * 4 + 1, none⟩ = some (.slice SA m cs) := (hbel.cell (p := ⟨g, _, none⟩) HK.out.1).trans HK.out.2.1
            have z2 : wr.cell? ⟨g, o + i * 4 + 2, none⟩ = some (.slice AW q cw) := (hbel.cell (p := ⟨g, _, none⟩) HK.out.1).trans HK.out.2.2
            have HSL := Lib.hid (scopes_bl (l := x.scopes.take k) (fun t ht => HL2.out t (List.mem_of_mem_take ht)))
            have HTL : Hid ((x.scopes.take k).length ≤ 40) := Lib.hid (by rw [List.length_take]; have := HL1.out; omega)
            obtain ⟨Sk, hSk⟩ : ∃ Q, Q = scopesL (x.scopes.take k) := ⟨_, rfl⟩
            rw [← hSk] at HSL ⊢
            have HSK := Lib.hid hSk
            have HCB : Hid (Bytes (Pr ++ Sk)) := Lib.hid (HPB.out.1.append HSL.out.1)
            obtain ⟨C, hC⟩ : ∃ Q, Q = toS (Pr ++ Sk) := ⟨_, rfl⟩
            have hCs : C.size ≤ 211000000 := by
              rw [hC, size_toS, List.length_append]
              have h1 := HPB.out.2; have h2 := HSL.out.2; have h3 := HTL.out
              omega
            have HCC := Lib.hid hC
            rw [← hC]
            clear hC hSk
            by_cases hkm : k < m
            · have kl : k < x.scopes.length := by rw [← HM.out]; exact hkm
              have k1 : (k : Int) < (m : Int) := by omega
              have k2 : (0 : Int) ≤ (k : Int) := by omega
              obtain ⟨h, r2, rfl, _, hh, hcs⟩ := HSC.out (fun e => by rw [e] at kl; exact absurd kl (Nat.not_lt_zero _))
              obtain ⟨t, ht, _, l1⟩ := hcs k kl
              have htm : t ∈ x.scopes := List.mem_of_getElem? ht
              rw [List.getElem?_eq_getElem kl] at ht
              injection ht with ht
              have y1 := (hbel.cell (p := ⟨h, r2 + k, none⟩) hh).trans l1
              have hts := HL2.out t htm
              have HQT := Lib.hid (refQuoteX_any t wr (by omega))
              have hbq := bl_quote t
              have HTK : Hid (x.scopes.take (k + 1) = x.scopes.take k ++ [t]) := Lib.hid (by rw [List.take_succ_eq_append_getElem kl, ht])
              obtain ⟨qq, hqq⟩ : ∃ q, q = (quoteN (strL t)).1 := ⟨_, rfl⟩
              obtain ⟨qb, hqb⟩ : ∃ q, q = (quoteN (strL t)).2 := ⟨_, rfl⟩
              have hbq2 : BL (2 * t.size + 2) qq := by rw [hqq]; exact hbq
              rw [← hqq, ← hqb] at HQT
              have HQQ : Hid (qq = quoteL t) := Lib.hid hqq
              have HQBY := Lib.hid hbq2.1
              obtain ⟨V, hV⟩ : ∃ Q, Q = toS qq := ⟨_, rfl⟩
              have hVs : V.size ≤ 2002 := by rw [hV, size_toS]; have := hbq2.2; omega
              rw [← hV] at HQT
              have HV := Lib.hid hV
              clear hcs l1 hbel ht htm hqq hqb hbq hbq2 hV kl hts
              by_cases hk0 : k = 0
              · have e0 : ((k : Int) == 0) = true := by rw [hk0]; rfl
                have hN1 : C.size + (⟨#[32, 115, 99, 111, 112, 101, 32]⟩ : ByteArray).size ≤ 9223372036854775807 := by show C.size + 7 ≤ _; omega
                have hN2 : (C ++ (⟨#[32, 115, 99, 111, 112, 101, 32]⟩ : ByteArray)).size + V.size ≤ 9223372036854775807 := by rw [ByteArray.size_append]; show C.size + 7 + V.size ≤ _; omega
                have HNX : Hid (C ++ (⟨#[32, 115, 99, 111, 112, 101, 32]⟩ : ByteArray) ++ V = toS (Pr ++ scopesL (x.scopes.take (k + 1)))) := Lib.hid (by
                  have bs : Bytes [32, 115, 99, 111, 112, 101, 32] := .of_mem (by decide)
                  have hS0 : Sk = [] := by rw [HSK.out, hk0]; rfl
                  rw [HTK.out, HCC.out, HV.out, show (⟨#[32, 115, 99, 111, 112, 101, 32]⟩ : ByteArray) = toS [32, 115, 99, 111, 112, 101, 32] from rfl, toS_append HCB.out bs, toS_append (HCB.out.append bs) HQBY.out, hS0, hk0, HQQ.out]
                  simp [scopesL])
                have HK0 := Lib.hid hk0
                clear hk0
                go_wp2_with fail
                (with_reducible refine HQT.out.mono ?_)
                rintro e w5 ⟨rfl, hb5⟩
                have BB := Lib.hid (BB.out.trans (hb5.mono BB.out.size))
                clear hb5 y1 z1 z2
                go_wp2
                go_roundw
                case rel => exact ⟨k + 1, hkm, by go_num, by rw [HNX.out], BB.out⟩
                case measure => simp [intOf]; omega
              · have e0 : ((k : Int) == 0) = false := by rw [beq_eq_false_iff_ne]; omega
                have hN1 : C.size + (⟨#[44, 32]⟩ : ByteArray).size ≤ 9223372036854775807 := by show C.size + 2 ≤ _; omega
                have hN2 : (C ++ (⟨#[44, 32]⟩ : ByteArray)).size + V.size ≤ 9223372036854775807 := by rw [ByteArray.size_append]; show C.size + 2 + V.size ≤ _; omega
                have HNX : Hid (C ++ (⟨#[44, 32]⟩ : ByteArray) ++ V = toS (Pr ++ scopesL (x.scopes.take (k + 1)))) := Lib.hid (by
                  have bs : Bytes [44, 32] := .of_mem (by decide)
                  have hne : x.scopes.take k ≠ [] := fun e => by
                    have := congrArg List.length e
                    rw [List.length_take, ← HM.out, List.length_nil] at this
                    omega
                  rw [HTK.out, HCC.out, HV.out, show (⟨#[44, 32]⟩ : ByteArray) = toS [44, 32] from rfl, toS_append HCB.out bs, toS_append (HCB.out.append bs) HQBY.out, scopesL_snoc hne, ← HSK.out, HQQ.out]
                  simp)
                clear hk0
                go_wp2_with fail
                (with_reducible refine HQT.out.mono ?_)
                rintro e w5 ⟨rfl, hb5⟩
                have BB := Lib.hid (BB.out.trans (hb5.mono BB.out.size))
                clear hb5 y1 z1 z2
                go_wp2
                go_roundw
                case rel => exact ⟨k + 1, hkm, by go_num, by rw [HNX.out], BB.out⟩
                case measure => simp [intOf]; omega
            · obtain rfl : k = m := by omega
              have hge : ¬ (k : Int) < (k : Int) := by omega
              have HSA : Hid (Sk = scopesL x.scopes) := Lib.hid (by rw [HSK.out, List.take_of_length_le (by rw [HM.out]; exact Nat.le_refl _)])
              by_cases hq0 : q = 0
              · have q1 : ¬ (0 : Int) < (q : Int) := by omega
                have hN1 : C.size + (⟨#[59]⟩ : ByteArray).size ≤ 9223372036854775807 := by show C.size + 1 ≤ _; omega
                have HNX : Hid (C ++ (⟨#[59]⟩ : ByteArray) = toS (joinL ((l.take (i + 1)).map (ruleL 200)))) := Lib.hid (by
                  have hw : x.whens = [] := List.eq_nil_of_length_eq_zero (by rw [← HQ.out, hq0])
                  have bs : Bytes [59] := .of_mem (by decide)
                  rw [HCC.out, show (⟨#[59]⟩ : ByteArray) = toS [59] from rfl, toS_append HCB.out bs, HJN.out, HPR.out, HSA.out]
                  unfold ruleL
                  rw [HDN.out, hw, show strL (headW true) = [100, 101, 110, 121] from by decide]
                  simp [whenL])
                clear hbel hq0 hkm hk
                go_wp2
                go_roundw
                case rel => exact ⟨i + 1, hlt, by go_num, by rw [HNX.out], BB.out⟩
                case measure => simp [intOf]; omega
              · have q1 : (0 : Int) < (q : Int) := by omega
                obtain ⟨h, r2, rfl, _, hh, hes⟩ := HWC.out (fun e => hq0 (by rw [HQ.out, e]; rfl))
                obtain ⟨y, v, hyk, hry, hf⟩ := hes.atX 0 (by rw [← HQ.out]; omega)
                have hym : y ∈ x.whens := List.mem_of_getElem? hyk
                have hyg := HGW.out y hym
                have hyn : nodesE y ≤ 1500 := by have := nodes_mem hym; have := HL4.out; omega
                have HCY := Lib.hid (text_any 200 y 1 hyg (HL3.out y hym) hyn B wr v (Nat.le_trans HBW.out hbel.size) (hry.under HBW.out hbel))
                rw [show ((1 : Nat) : Int) = 1 from rfl] at HCY
                obtain ⟨ty1, ty2⟩ := text_size hyg (HL3.out y hym) hyn 1
                obtain ⟨Y, y3, yc, rfl, hy3, l0, l1, l2, l3, l4⟩ := hry.cells hf
                rw [Nat.zero_mul, Nat.add_zero] at l0 l1 l2 l3 l4
                obtain ⟨y0, hn0⟩ : ∃ t, t = y.op := ⟨_, rfl⟩
                obtain ⟨y1, hn1⟩ : ∃ t, t = y.text := ⟨_, rfl⟩
                obtain ⟨y2, hn2⟩ : ∃ t, t = y.num := ⟨_, rfl⟩
                obtain ⟨y4, hn4⟩ : ∃ t, t = y.pos := ⟨_, rfl⟩
                rw [← hn0, ← hn1, ← hn2, ← hn4] at HCY
                rw [← hn0] at l0
                rw [← hn1] at l1
                rw [← hn2] at l2
                rw [← hn4] at l4
                have u0 := (hbel.cell (p := ⟨h, r2, none⟩) hh).trans l0
                have u1 := (hbel.cell (p := ⟨h, r2 + 1, none⟩) hh).trans l1
                have u2 := (hbel.cell (p := ⟨h, r2 + 2, none⟩) hh).trans l2
                have u3 := (hbel.cell (p := ⟨h, r2 + 3, none⟩) hh).trans l3
                have u4 := (hbel.cell (p := ⟨h, r2 + 4, none⟩) hh).trans l4
                obtain ⟨tt, htt⟩ : ∃ t, t = textF 200 y 1 := ⟨_, rfl⟩
                rw [← htt] at HCY ty1 ty2
                obtain ⟨V, hV⟩ : ∃ Q, Q = toS tt := ⟨_, rfl⟩
                rw [← hV] at HCY ty2
                have hN1 : C.size + (⟨#[32, 119, 104, 101, 110, 32]⟩ : ByteArray).size ≤ 9223372036854775807 := by show C.size + 6 ≤ _; omega
                have hN2 : (C ++ (⟨#[32, 119, 104, 101, 110, 32]⟩ : ByteArray)).size + V.size ≤ 9223372036854775807 := by rw [ByteArray.size_append]; show C.size + 6 + V.size ≤ _; omega
                have hN3 : (C ++ (⟨#[32, 119, 104, 101, 110, 32]⟩ : ByteArray) ++ V).size + (⟨#[59]⟩ : ByteArray).size ≤ 9223372036854775807 := by rw [ByteArray.size_append, ByteArray.size_append]; show C.size + 6 + V.size + 1 ≤ _; omega
                have HNX : Hid (C ++ (⟨#[32, 119, 104, 101, 110, 32]⟩ : ByteArray) ++ V ++ (⟨#[59]⟩ : ByteArray) = toS (joinL ((l.take (i + 1)).map (ruleL 200)))) := Lib.hid (by
                  have hw : ∃ r, x.whens = y :: r := by
                    cases hx : x.whens with
                    | nil => rw [hx] at hym; cases hym
                    | cons a r =>
                      rw [hx] at hyk
                      simp at hyk
                      exact ⟨r, by rw [hyk]⟩
                  obtain ⟨r, hw⟩ := hw
                  have b1 : Bytes [32, 119, 104, 101, 110, 32] := .of_mem (by decide)
                  have b2 : Bytes [59] := .of_mem (by decide)
                  rw [HCC.out, hV, show (⟨#[32, 119, 104, 101, 110, 32]⟩ : ByteArray) = toS [32, 119, 104, 101, 110, 32] from rfl, show (⟨#[59]⟩ : ByteArray) = toS [59] from rfl, toS_append HCB.out b1, toS_append (HCB.out.append b1) ty1, toS_append ((HCB.out.append b1).append ty1) b2, HJN.out, HPR.out, HSA.out]
                  unfold ruleL
                  rw [HDN.out, hw, show strL (headW true) = [100, 101, 110, 121] from by decide, htt]
                  simp [whenL])
                clear hbel hq0 hkm hk hes hyk hry hf hym hyg hyn hy3 ty1 htt hV l0 l1 l2 l3 l4 hn0 hn1 hn2 hn4
                go_wp2_with fail
                (with_reducible refine HCY.out.mono ?_)
                rintro e w5 ⟨rfl, hb5⟩
                have BB := Lib.hid (BB.out.trans (hb5.mono BB.out.size))
                clear hb5 z1 z2 u0 u1 u2 u3 u4
                go_wp2
                go_roundw
                case rel => exact ⟨i + 1, hlt, by go_num, by rw [HNX.out], BB.out⟩
                case measure => simp [intOf]; omega
      · have j1 : (0 : Int) < (i : Int) := by omega
        have HJN : Hid (joinL ((l.take (i + 1)).map (ruleL 200)) = acc ++ ([10] ++ ruleL 200 x)) := Lib.hid (HJ1.out hi0)
        clear hi0
        cases hd : x.deny with
        | false =>
          have z0 : wr.cell? ⟨g, o + i * 4, none⟩ = some (.bool false) := by rw [← hd]; exact (BB.out.cell (p := ⟨g, _, none⟩) HK.out.1).trans HK0.out
          have HDN := Lib.hid hd
          clear hd
          have hA0 : T.size + (⟨#[10]⟩ : ByteArray).size ≤ 9223372036854775807 := by show T.size + 1 ≤ _; omega
          have hA102 : (T ++ (⟨#[10]⟩ : ByteArray)).size + (⟨#[112, 101, 114, 109, 105, 116]⟩ : ByteArray).size ≤ 9223372036854775807 := by rw [ByteArray.size_append]; show T.size + 1 + 6 ≤ _; omega
          have HP0 : Hid ((T ++ (⟨#[10]⟩ : ByteArray)) ++ (⟨#[112, 101, 114, 109, 105, 116]⟩ : ByteArray) = toS (acc ++ [10, 112, 101, 114, 109, 105, 116])) := Lib.hid (by
            rw [HT.out, show (⟨#[10]⟩ : ByteArray) = toS [10] from rfl, show (⟨#[112, 101, 114, 109, 105, 116]⟩ : ByteArray) = toS [112, 101, 114, 109, 105, 116] from rfl, toS_append HAB.out (.of_mem (by decide)), toS_append (HAB.out.append (.of_mem (by decide))) (.of_mem (by decide))]
            try simp)
          obtain ⟨Pr, hPr⟩ : ∃ Q, Q = acc ++ [10, 112, 101, 114, 109, 105, 116] := ⟨_, rfl⟩
          rw [← hPr] at HP0
          have HPB : Hid (Bytes Pr ∧ Pr.length ≤ 210000020) := Lib.hid (by
            rw [hPr]
            refine ⟨HAB.out.append (.of_mem (by decide)), ?_⟩
            have := HSZ.out
            rw [HT.out, size_toS] at this
            rw [List.length_append]; simp only [List.length_cons, List.length_nil]; omega)
          have HPR := Lib.hid hPr
          clear hPr
          go_wp2
          rw [HP0.out]
          clear z0
          go_loopw [3, 5] (fun u v wr => ∃ k : Nat, k ≤ m ∧ v = .int .i64 (k : Int) ∧ u = .string (toS (Pr ++ scopesL (x.scopes.take k))) ∧ Below W.heap.size W wr) (fun _ v _ => m - (intOf v).toNat)
          case atStart => exact ⟨0, Nat.zero_le _, rfl, by rw [List.take_zero]; simp [scopesL], BB.out⟩
          case round =>
            obtain ⟨k, hk, rfl, rfl, hbel⟩ := hrel
            have BB := Lib.hid hbel
            have z1 : wr.cell? ⟨g, o + i * 4 + 1, none⟩ = some (.slice SA m cs) := (hbel.cell (p := ⟨g, _, none⟩) HK.out.1).trans HK.out.2.1
            have z2 : wr.cell? ⟨g, o + i * 4 + 2, none⟩ = some (.slice AW q cw) := (hbel.cell (p := ⟨g, _, none⟩) HK.out.1).trans HK.out.2.2
            have HSL := Lib.hid (scopes_bl (l := x.scopes.take k) (fun t ht => HL2.out t (List.mem_of_mem_take ht)))
            have HTL : Hid ((x.scopes.take k).length ≤ 40) := Lib.hid (by rw [List.length_take]; have := HL1.out; omega)
            obtain ⟨Sk, hSk⟩ : ∃ Q, Q = scopesL (x.scopes.take k) := ⟨_, rfl⟩
            rw [← hSk] at HSL ⊢
            have HSK := Lib.hid hSk
            have HCB : Hid (Bytes (Pr ++ Sk)) := Lib.hid (HPB.out.1.append HSL.out.1)
            obtain ⟨C, hC⟩ : ∃ Q, Q = toS (Pr ++ Sk) := ⟨_, rfl⟩
            have hCs : C.size ≤ 211000000 := by
              rw [hC, size_toS, List.length_append]
              have h1 := HPB.out.2; have h2 := HSL.out.2; have h3 := HTL.out
              omega
            have HCC := Lib.hid hC
            rw [← hC]
            clear hC hSk
            by_cases hkm : k < m
            · have kl : k < x.scopes.length := by rw [← HM.out]; exact hkm
              have k1 : (k : Int) < (m : Int) := by omega
              have k2 : (0 : Int) ≤ (k : Int) := by omega
              obtain ⟨h, r2, rfl, _, hh, hcs⟩ := HSC.out (fun e => by rw [e] at kl; exact absurd kl (Nat.not_lt_zero _))
              obtain ⟨t, ht, _, l1⟩ := hcs k kl
              have htm : t ∈ x.scopes := List.mem_of_getElem? ht
              rw [List.getElem?_eq_getElem kl] at ht
              injection ht with ht
              have y1 := (hbel.cell (p := ⟨h, r2 + k, none⟩) hh).trans l1
              have hts := HL2.out t htm
              have HQT := Lib.hid (refQuoteX_any t wr (by omega))
              have hbq := bl_quote t
              have HTK : Hid (x.scopes.take (k + 1) = x.scopes.take k ++ [t]) := Lib.hid (by rw [List.take_succ_eq_append_getElem kl, ht])
              obtain ⟨qq, hqq⟩ : ∃ q, q = (quoteN (strL t)).1 := ⟨_, rfl⟩
              obtain ⟨qb, hqb⟩ : ∃ q, q = (quoteN (strL t)).2 := ⟨_, rfl⟩
              have hbq2 : BL (2 * t.size + 2) qq := by rw [hqq]; exact hbq
              rw [← hqq, ← hqb] at HQT
              have HQQ : Hid (qq = quoteL t) := Lib.hid hqq
              have HQBY := Lib.hid hbq2.1
              obtain ⟨V, hV⟩ : ∃ Q, Q = toS qq := ⟨_, rfl⟩
              have hVs : V.size ≤ 2002 := by rw [hV, size_toS]; have := hbq2.2; omega
              rw [← hV] at HQT
              have HV := Lib.hid hV
              clear hcs l1 hbel ht htm hqq hqb hbq hbq2 hV kl hts
              by_cases hk0 : k = 0
              · have e0 : ((k : Int) == 0) = true := by rw [hk0]; rfl
                have hN1 : C.size + (⟨#[32, 115, 99, 111, 112, 101, 32]⟩ : ByteArray).size ≤ 9223372036854775807 := by show C.size + 7 ≤ _; omega
                have hN2 : (C ++ (⟨#[32, 115, 99, 111, 112, 101, 32]⟩ : ByteArray)).size + V.size ≤ 9223372036854775807 := by rw [ByteArray.size_append]; show C.size + 7 + V.size ≤ _; omega
                have HNX : Hid (C ++ (⟨#[32, 115, 99, 111, 112, 101, 32]⟩ : ByteArray) ++ V = toS (Pr ++ scopesL (x.scopes.take (k + 1)))) := Lib.hid (by
                  have bs : Bytes [32, 115, 99, 111, 112, 101, 32] := .of_mem (by decide)
                  have hS0 : Sk = [] := by rw [HSK.out, hk0]; rfl
                  rw [HTK.out, HCC.out, HV.out, show (⟨#[32, 115, 99, 111, 112, 101, 32]⟩ : ByteArray) = toS [32, 115, 99, 111, 112, 101, 32] from rfl, toS_append HCB.out bs, toS_append (HCB.out.append bs) HQBY.out, hS0, hk0, HQQ.out]
                  simp [scopesL])
                have HK0 := Lib.hid hk0
                clear hk0
                go_wp2_with fail
                (with_reducible refine HQT.out.mono ?_)
                rintro e w5 ⟨rfl, hb5⟩
                have BB := Lib.hid (BB.out.trans (hb5.mono BB.out.size))
                clear hb5 y1 z1 z2
                go_wp2
                go_roundw
                case rel => exact ⟨k + 1, hkm, by go_num, by rw [HNX.out], BB.out⟩
                case measure => simp [intOf]; omega
              · have e0 : ((k : Int) == 0) = false := by rw [beq_eq_false_iff_ne]; omega
                have hN1 : C.size + (⟨#[44, 32]⟩ : ByteArray).size ≤ 9223372036854775807 := by show C.size + 2 ≤ _; omega
                have hN2 : (C ++ (⟨#[44, 32]⟩ : ByteArray)).size + V.size ≤ 9223372036854775807 := by rw [ByteArray.size_append]; show C.size + 2 + V.size ≤ _; omega
                have HNX : Hid (C ++ (⟨#[44, 32]⟩ : ByteArray) ++ V = toS (Pr ++ scopesL (x.scopes.take (k + 1)))) := Lib.hid (by
                  have bs : Bytes [44, 32] := .of_mem (by decide)
                  have hne : x.scopes.take k ≠ [] := fun e => by
                    have := congrArg List.length e
                    rw [List.length_take, ← HM.out, List.length_nil] at this
                    omega
                  rw [HTK.out, HCC.out, HV.out, show (⟨#[44, 32]⟩ : ByteArray) = toS [44, 32] from rfl, toS_append HCB.out bs, toS_append (HCB.out.append bs) HQBY.out, scopesL_snoc hne, ← HSK.out, HQQ.out]
                  simp)
                clear hk0
                go_wp2_with fail
                (with_reducible refine HQT.out.mono ?_)
                rintro e w5 ⟨rfl, hb5⟩
                have BB := Lib.hid (BB.out.trans (hb5.mono BB.out.size))
                clear hb5 y1 z1 z2
                go_wp2
                go_roundw
                case rel => exact ⟨k + 1, hkm, by go_num, by rw [HNX.out], BB.out⟩
                case measure => simp [intOf]; omega
            · obtain rfl : k = m := by omega
              have hge : ¬ (k : Int) < (k : Int) := by omega
              have HSA : Hid (Sk = scopesL x.scopes) := Lib.hid (by rw [HSK.out, List.take_of_length_le (by rw [HM.out]; exact Nat.le_refl _)])
              by_cases hq0 : q = 0
              · have q1 : ¬ (0 : Int) < (q : Int) := by omega
                have hN1 : C.size + (⟨#[59]⟩ : ByteArray).size ≤ 9223372036854775807 := by show C.size + 1 ≤ _; omega
                have HNX : Hid (C ++ (⟨#[59]⟩ : ByteArray) = toS (joinL ((l.take (i + 1)).map (ruleL 200)))) := Lib.hid (by
                  have hw : x.whens = [] := List.eq_nil_of_length_eq_zero (by rw [← HQ.out, hq0])
                  have bs : Bytes [59] := .of_mem (by decide)
                  rw [HCC.out, show (⟨#[59]⟩ : ByteArray) = toS [59] from rfl, toS_append HCB.out bs, HJN.out, HPR.out, HSA.out]
                  unfold ruleL
                  rw [HDN.out, hw, show strL (headW false) = [112, 101, 114, 109, 105, 116] from by decide]
                  simp [whenL])
                clear hbel hq0 hkm hk
                go_wp2
                go_roundw
                case rel => exact ⟨i + 1, hlt, by go_num, by rw [HNX.out], BB.out⟩
                case measure => simp [intOf]; omega
              · have q1 : (0 : Int) < (q : Int) := by omega
                obtain ⟨h, r2, rfl, _, hh, hes⟩ := HWC.out (fun e => hq0 (by rw [HQ.out, e]; rfl))
                obtain ⟨y, v, hyk, hry, hf⟩ := hes.atX 0 (by rw [← HQ.out]; omega)
                have hym : y ∈ x.whens := List.mem_of_getElem? hyk
                have hyg := HGW.out y hym
                have hyn : nodesE y ≤ 1500 := by have := nodes_mem hym; have := HL4.out; omega
                have HCY := Lib.hid (text_any 200 y 1 hyg (HL3.out y hym) hyn B wr v (Nat.le_trans HBW.out hbel.size) (hry.under HBW.out hbel))
                rw [show ((1 : Nat) : Int) = 1 from rfl] at HCY
                obtain ⟨ty1, ty2⟩ := text_size hyg (HL3.out y hym) hyn 1
                obtain ⟨Y, y3, yc, rfl, hy3, l0, l1, l2, l3, l4⟩ := hry.cells hf
                rw [Nat.zero_mul, Nat.add_zero] at l0 l1 l2 l3 l4
                obtain ⟨y0, hn0⟩ : ∃ t, t = y.op := ⟨_, rfl⟩
                obtain ⟨y1, hn1⟩ : ∃ t, t = y.text := ⟨_, rfl⟩
                obtain ⟨y2, hn2⟩ : ∃ t, t = y.num := ⟨_, rfl⟩
                obtain ⟨y4, hn4⟩ : ∃ t, t = y.pos := ⟨_, rfl⟩
                rw [← hn0, ← hn1, ← hn2, ← hn4] at HCY
                rw [← hn0] at l0
                rw [← hn1] at l1
                rw [← hn2] at l2
                rw [← hn4] at l4
                have u0 := (hbel.cell (p := ⟨h, r2, none⟩) hh).trans l0
                have u1 := (hbel.cell (p := ⟨h, r2 + 1, none⟩) hh).trans l1
                have u2 := (hbel.cell (p := ⟨h, r2 + 2, none⟩) hh).trans l2
                have u3 := (hbel.cell (p := ⟨h, r2 + 3, none⟩) hh).trans l3
                have u4 := (hbel.cell (p := ⟨h, r2 + 4, none⟩) hh).trans l4
                obtain ⟨tt, htt⟩ : ∃ t, t = textF 200 y 1 := ⟨_, rfl⟩
                rw [← htt] at HCY ty1 ty2
                obtain ⟨V, hV⟩ : ∃ Q, Q = toS tt := ⟨_, rfl⟩
                rw [← hV] at HCY ty2
                have hN1 : C.size + (⟨#[32, 119, 104, 101, 110, 32]⟩ : ByteArray).size ≤ 9223372036854775807 := by show C.size + 6 ≤ _; omega
                have hN2 : (C ++ (⟨#[32, 119, 104, 101, 110, 32]⟩ : ByteArray)).size + V.size ≤ 9223372036854775807 := by rw [ByteArray.size_append]; show C.size + 6 + V.size ≤ _; omega
                have hN3 : (C ++ (⟨#[32, 119, 104, 101, 110, 32]⟩ : ByteArray) ++ V).size + (⟨#[59]⟩ : ByteArray).size ≤ 9223372036854775807 := by rw [ByteArray.size_append, ByteArray.size_append]; show C.size + 6 + V.size + 1 ≤ _; omega
                have HNX : Hid (C ++ (⟨#[32, 119, 104, 101, 110, 32]⟩ : ByteArray) ++ V ++ (⟨#[59]⟩ : ByteArray) = toS (joinL ((l.take (i + 1)).map (ruleL 200)))) := Lib.hid (by
                  have hw : ∃ r, x.whens = y :: r := by
                    cases hx : x.whens with
                    | nil => rw [hx] at hym; cases hym
                    | cons a r =>
                      rw [hx] at hyk
                      simp at hyk
                      exact ⟨r, by rw [hyk]⟩
                  obtain ⟨r, hw⟩ := hw
                  have b1 : Bytes [32, 119, 104, 101, 110, 32] := .of_mem (by decide)
                  have b2 : Bytes [59] := .of_mem (by decide)
                  rw [HCC.out, hV, show (⟨#[32, 119, 104, 101, 110, 32]⟩ : ByteArray) = toS [32, 119, 104, 101, 110, 32] from rfl, show (⟨#[59]⟩ : ByteArray) = toS [59] from rfl, toS_append HCB.out b1, toS_append (HCB.out.append b1) ty1, toS_append ((HCB.out.append b1).append ty1) b2, HJN.out, HPR.out, HSA.out]
                  unfold ruleL
                  rw [HDN.out, hw, show strL (headW false) = [112, 101, 114, 109, 105, 116] from by decide, htt]
                  simp [whenL])
                clear hbel hq0 hkm hk hes hyk hry hf hym hyg hyn hy3 ty1 htt hV l0 l1 l2 l3 l4 hn0 hn1 hn2 hn4
                go_wp2_with fail
                (with_reducible refine HCY.out.mono ?_)
                rintro e w5 ⟨rfl, hb5⟩
                have BB := Lib.hid (BB.out.trans (hb5.mono BB.out.size))
                clear hb5 z1 z2 u0 u1 u2 u3 u4
                go_wp2
                go_roundw
                case rel => exact ⟨i + 1, hlt, by go_num, by rw [HNX.out], BB.out⟩
                case measure => simp [intOf]; omega
        | true =>
          have z0 : wr.cell? ⟨g, o + i * 4, none⟩ = some (.bool true) := by rw [← hd]; exact (BB.out.cell (p := ⟨g, _, none⟩) HK.out.1).trans HK0.out
          have HDN := Lib.hid hd
          clear hd
          have hA0 : T.size + (⟨#[10]⟩ : ByteArray).size ≤ 9223372036854775807 := by show T.size + 1 ≤ _; omega
          have hA102 : (T ++ (⟨#[10]⟩ : ByteArray)).size + (⟨#[100, 101, 110, 121]⟩ : ByteArray).size ≤ 9223372036854775807 := by rw [ByteArray.size_append]; show T.size + 1 + 4 ≤ _; omega
          have HP0 : Hid ((T ++ (⟨#[10]⟩ : ByteArray)) ++ (⟨#[100, 101, 110, 121]⟩ : ByteArray) = toS (acc ++ [10, 100, 101, 110, 121])) := Lib.hid (by
            rw [HT.out, show (⟨#[10]⟩ : ByteArray) = toS [10] from rfl, show (⟨#[100, 101, 110, 121]⟩ : ByteArray) = toS [100, 101, 110, 121] from rfl, toS_append HAB.out (.of_mem (by decide)), toS_append (HAB.out.append (.of_mem (by decide))) (.of_mem (by decide))]
            try simp)
          obtain ⟨Pr, hPr⟩ : ∃ Q, Q = acc ++ [10, 100, 101, 110, 121] := ⟨_, rfl⟩
          rw [← hPr] at HP0
          have HPB : Hid (Bytes Pr ∧ Pr.length ≤ 210000020) := Lib.hid (by
            rw [hPr]
            refine ⟨HAB.out.append (.of_mem (by decide)), ?_⟩
            have := HSZ.out
            rw [HT.out, size_toS] at this
            rw [List.length_append]; simp only [List.length_cons, List.length_nil]; omega)
          have HPR := Lib.hid hPr
          clear hPr
          go_wp2
          rw [HP0.out]
          clear z0
          go_loopw [3, 5] (fun u v wr => ∃ k : Nat, k ≤ m ∧ v = .int .i64 (k : Int) ∧ u = .string (toS (Pr ++ scopesL (x.scopes.take k))) ∧ Below W.heap.size W wr) (fun _ v _ => m - (intOf v).toNat)
          case atStart => exact ⟨0, Nat.zero_le _, rfl, by rw [List.take_zero]; simp [scopesL], BB.out⟩
          case round =>
            obtain ⟨k, hk, rfl, rfl, hbel⟩ := hrel
            have BB := Lib.hid hbel
            have z1 : wr.cell? ⟨g, o + i * 4 + 1, none⟩ = some (.slice SA m cs) := (hbel.cell (p := ⟨g, _, none⟩) HK.out.1).trans HK.out.2.1
            have z2 : wr.cell? ⟨g, o + i * 4 + 2, none⟩ = some (.slice AW q cw) := (hbel.cell (p := ⟨g, _, none⟩) HK.out.1).trans HK.out.2.2
            have HSL := Lib.hid (scopes_bl (l := x.scopes.take k) (fun t ht => HL2.out t (List.mem_of_mem_take ht)))
            have HTL : Hid ((x.scopes.take k).length ≤ 40) := Lib.hid (by rw [List.length_take]; have := HL1.out; omega)
            obtain ⟨Sk, hSk⟩ : ∃ Q, Q = scopesL (x.scopes.take k) := ⟨_, rfl⟩
            rw [← hSk] at HSL ⊢
            have HSK := Lib.hid hSk
            have HCB : Hid (Bytes (Pr ++ Sk)) := Lib.hid (HPB.out.1.append HSL.out.1)
            obtain ⟨C, hC⟩ : ∃ Q, Q = toS (Pr ++ Sk) := ⟨_, rfl⟩
            have hCs : C.size ≤ 211000000 := by
              rw [hC, size_toS, List.length_append]
              have h1 := HPB.out.2; have h2 := HSL.out.2; have h3 := HTL.out
              omega
            have HCC := Lib.hid hC
            rw [← hC]
            clear hC hSk
            by_cases hkm : k < m
            · have kl : k < x.scopes.length := by rw [← HM.out]; exact hkm
              have k1 : (k : Int) < (m : Int) := by omega
              have k2 : (0 : Int) ≤ (k : Int) := by omega
              obtain ⟨h, r2, rfl, _, hh, hcs⟩ := HSC.out (fun e => by rw [e] at kl; exact absurd kl (Nat.not_lt_zero _))
              obtain ⟨t, ht, _, l1⟩ := hcs k kl
              have htm : t ∈ x.scopes := List.mem_of_getElem? ht
              rw [List.getElem?_eq_getElem kl] at ht
              injection ht with ht
              have y1 := (hbel.cell (p := ⟨h, r2 + k, none⟩) hh).trans l1
              have hts := HL2.out t htm
              have HQT := Lib.hid (refQuoteX_any t wr (by omega))
              have hbq := bl_quote t
              have HTK : Hid (x.scopes.take (k + 1) = x.scopes.take k ++ [t]) := Lib.hid (by rw [List.take_succ_eq_append_getElem kl, ht])
              obtain ⟨qq, hqq⟩ : ∃ q, q = (quoteN (strL t)).1 := ⟨_, rfl⟩
              obtain ⟨qb, hqb⟩ : ∃ q, q = (quoteN (strL t)).2 := ⟨_, rfl⟩
              have hbq2 : BL (2 * t.size + 2) qq := by rw [hqq]; exact hbq
              rw [← hqq, ← hqb] at HQT
              have HQQ : Hid (qq = quoteL t) := Lib.hid hqq
              have HQBY := Lib.hid hbq2.1
              obtain ⟨V, hV⟩ : ∃ Q, Q = toS qq := ⟨_, rfl⟩
              have hVs : V.size ≤ 2002 := by rw [hV, size_toS]; have := hbq2.2; omega
              rw [← hV] at HQT
              have HV := Lib.hid hV
              clear hcs l1 hbel ht htm hqq hqb hbq hbq2 hV kl hts
              by_cases hk0 : k = 0
              · have e0 : ((k : Int) == 0) = true := by rw [hk0]; rfl
                have hN1 : C.size + (⟨#[32, 115, 99, 111, 112, 101, 32]⟩ : ByteArray).size ≤ 9223372036854775807 := by show C.size + 7 ≤ _; omega
                have hN2 : (C ++ (⟨#[32, 115, 99, 111, 112, 101, 32]⟩ : ByteArray)).size + V.size ≤ 9223372036854775807 := by rw [ByteArray.size_append]; show C.size + 7 + V.size ≤ _; omega
                have HNX : Hid (C ++ (⟨#[32, 115, 99, 111, 112, 101, 32]⟩ : ByteArray) ++ V = toS (Pr ++ scopesL (x.scopes.take (k + 1)))) := Lib.hid (by
                  have bs : Bytes [32, 115, 99, 111, 112, 101, 32] := .of_mem (by decide)
                  have hS0 : Sk = [] := by rw [HSK.out, hk0]; rfl
                  rw [HTK.out, HCC.out, HV.out, show (⟨#[32, 115, 99, 111, 112, 101, 32]⟩ : ByteArray) = toS [32, 115, 99, 111, 112, 101, 32] from rfl, toS_append HCB.out bs, toS_append (HCB.out.append bs) HQBY.out, hS0, hk0, HQQ.out]
                  simp [scopesL])
                have HK0 := Lib.hid hk0
                clear hk0
                go_wp2_with fail
                (with_reducible refine HQT.out.mono ?_)
                rintro e w5 ⟨rfl, hb5⟩
                have BB := Lib.hid (BB.out.trans (hb5.mono BB.out.size))
                clear hb5 y1 z1 z2
                go_wp2
                go_roundw
                case rel => exact ⟨k + 1, hkm, by go_num, by rw [HNX.out], BB.out⟩
                case measure => simp [intOf]; omega
              · have e0 : ((k : Int) == 0) = false := by rw [beq_eq_false_iff_ne]; omega
                have hN1 : C.size + (⟨#[44, 32]⟩ : ByteArray).size ≤ 9223372036854775807 := by show C.size + 2 ≤ _; omega
                have hN2 : (C ++ (⟨#[44, 32]⟩ : ByteArray)).size + V.size ≤ 9223372036854775807 := by rw [ByteArray.size_append]; show C.size + 2 + V.size ≤ _; omega
                have HNX : Hid (C ++ (⟨#[44, 32]⟩ : ByteArray) ++ V = toS (Pr ++ scopesL (x.scopes.take (k + 1)))) := Lib.hid (by
                  have bs : Bytes [44, 32] := .of_mem (by decide)
                  have hne : x.scopes.take k ≠ [] := fun e => by
                    have := congrArg List.length e
                    rw [List.length_take, ← HM.out, List.length_nil] at this
                    omega
                  rw [HTK.out, HCC.out, HV.out, show (⟨#[44, 32]⟩ : ByteArray) = toS [44, 32] from rfl, toS_append HCB.out bs, toS_append (HCB.out.append bs) HQBY.out, scopesL_snoc hne, ← HSK.out, HQQ.out]
                  simp)
                clear hk0
                go_wp2_with fail
                (with_reducible refine HQT.out.mono ?_)
                rintro e w5 ⟨rfl, hb5⟩
                have BB := Lib.hid (BB.out.trans (hb5.mono BB.out.size))
                clear hb5 y1 z1 z2
                go_wp2
                go_roundw
                case rel => exact ⟨k + 1, hkm, by go_num, by rw [HNX.out], BB.out⟩
                case measure => simp [intOf]; omega
            · obtain rfl : k = m := by omega
              have hge : ¬ (k : Int) < (k : Int) := by omega
              have HSA : Hid (Sk = scopesL x.scopes) := Lib.hid (by rw [HSK.out, List.take_of_length_le (by rw [HM.out]; exact Nat.le_refl _)])
              by_cases hq0 : q = 0
              · have q1 : ¬ (0 : Int) < (q : Int) := by omega
                have hN1 : C.size + (⟨#[59]⟩ : ByteArray).size ≤ 9223372036854775807 := by show C.size + 1 ≤ _; omega
                have HNX : Hid (C ++ (⟨#[59]⟩ : ByteArray) = toS (joinL ((l.take (i + 1)).map (ruleL 200)))) := Lib.hid (by
                  have hw : x.whens = [] := List.eq_nil_of_length_eq_zero (by rw [← HQ.out, hq0])
                  have bs : Bytes [59] := .of_mem (by decide)
                  rw [HCC.out, show (⟨#[59]⟩ : ByteArray) = toS [59] from rfl, toS_append HCB.out bs, HJN.out, HPR.out, HSA.out]
                  unfold ruleL
                  rw [HDN.out, hw, show strL (headW true) = [100, 101, 110, 121] from by decide]
                  simp [whenL])
                clear hbel hq0 hkm hk
                go_wp2
                go_roundw
                case rel => exact ⟨i + 1, hlt, by go_num, by rw [HNX.out], BB.out⟩
                case measure => simp [intOf]; omega
              · have q1 : (0 : Int) < (q : Int) := by omega
                obtain ⟨h, r2, rfl, _, hh, hes⟩ := HWC.out (fun e => hq0 (by rw [HQ.out, e]; rfl))
                obtain ⟨y, v, hyk, hry, hf⟩ := hes.atX 0 (by rw [← HQ.out]; omega)
                have hym : y ∈ x.whens := List.mem_of_getElem? hyk
                have hyg := HGW.out y hym
                have hyn : nodesE y ≤ 1500 := by have := nodes_mem hym; have := HL4.out; omega
                have HCY := Lib.hid (text_any 200 y 1 hyg (HL3.out y hym) hyn B wr v (Nat.le_trans HBW.out hbel.size) (hry.under HBW.out hbel))
                rw [show ((1 : Nat) : Int) = 1 from rfl] at HCY
                obtain ⟨ty1, ty2⟩ := text_size hyg (HL3.out y hym) hyn 1
                obtain ⟨Y, y3, yc, rfl, hy3, l0, l1, l2, l3, l4⟩ := hry.cells hf
                rw [Nat.zero_mul, Nat.add_zero] at l0 l1 l2 l3 l4
                obtain ⟨y0, hn0⟩ : ∃ t, t = y.op := ⟨_, rfl⟩
                obtain ⟨y1, hn1⟩ : ∃ t, t = y.text := ⟨_, rfl⟩
                obtain ⟨y2, hn2⟩ : ∃ t, t = y.num := ⟨_, rfl⟩
                obtain ⟨y4, hn4⟩ : ∃ t, t = y.pos := ⟨_, rfl⟩
                rw [← hn0, ← hn1, ← hn2, ← hn4] at HCY
                rw [← hn0] at l0
                rw [← hn1] at l1
                rw [← hn2] at l2
                rw [← hn4] at l4
                have u0 := (hbel.cell (p := ⟨h, r2, none⟩) hh).trans l0
                have u1 := (hbel.cell (p := ⟨h, r2 + 1, none⟩) hh).trans l1
                have u2 := (hbel.cell (p := ⟨h, r2 + 2, none⟩) hh).trans l2
                have u3 := (hbel.cell (p := ⟨h, r2 + 3, none⟩) hh).trans l3
                have u4 := (hbel.cell (p := ⟨h, r2 + 4, none⟩) hh).trans l4
                obtain ⟨tt, htt⟩ : ∃ t, t = textF 200 y 1 := ⟨_, rfl⟩
                rw [← htt] at HCY ty1 ty2
                obtain ⟨V, hV⟩ : ∃ Q, Q = toS tt := ⟨_, rfl⟩
                rw [← hV] at HCY ty2
                have hN1 : C.size + (⟨#[32, 119, 104, 101, 110, 32]⟩ : ByteArray).size ≤ 9223372036854775807 := by show C.size + 6 ≤ _; omega
                have hN2 : (C ++ (⟨#[32, 119, 104, 101, 110, 32]⟩ : ByteArray)).size + V.size ≤ 9223372036854775807 := by rw [ByteArray.size_append]; show C.size + 6 + V.size ≤ _; omega
                have hN3 : (C ++ (⟨#[32, 119, 104, 101, 110, 32]⟩ : ByteArray) ++ V).size + (⟨#[59]⟩ : ByteArray).size ≤ 9223372036854775807 := by rw [ByteArray.size_append, ByteArray.size_append]; show C.size + 6 + V.size + 1 ≤ _; omega
                have HNX : Hid (C ++ (⟨#[32, 119, 104, 101, 110, 32]⟩ : ByteArray) ++ V ++ (⟨#[59]⟩ : ByteArray) = toS (joinL ((l.take (i + 1)).map (ruleL 200)))) := Lib.hid (by
                  have hw : ∃ r, x.whens = y :: r := by
                    cases hx : x.whens with
                    | nil => rw [hx] at hym; cases hym
                    | cons a r =>
                      rw [hx] at hyk
                      simp at hyk
                      exact ⟨r, by rw [hyk]⟩
                  obtain ⟨r, hw⟩ := hw
                  have b1 : Bytes [32, 119, 104, 101, 110, 32] := .of_mem (by decide)
                  have b2 : Bytes [59] := .of_mem (by decide)
                  rw [HCC.out, hV, show (⟨#[32, 119, 104, 101, 110, 32]⟩ : ByteArray) = toS [32, 119, 104, 101, 110, 32] from rfl, show (⟨#[59]⟩ : ByteArray) = toS [59] from rfl, toS_append HCB.out b1, toS_append (HCB.out.append b1) ty1, toS_append ((HCB.out.append b1).append ty1) b2, HJN.out, HPR.out, HSA.out]
                  unfold ruleL
                  rw [HDN.out, hw, show strL (headW true) = [100, 101, 110, 121] from by decide, htt]
                  simp [whenL])
                clear hbel hq0 hkm hk hes hyk hry hf hym hyg hyn hy3 ty1 htt hV l0 l1 l2 l3 l4 hn0 hn1 hn2 hn4
                go_wp2_with fail
                (with_reducible refine HCY.out.mono ?_)
                rintro e w5 ⟨rfl, hb5⟩
                have BB := Lib.hid (BB.out.trans (hb5.mono BB.out.size))
                clear hb5 z1 z2 u0 u1 u2 u3 u4
                go_wp2
                go_roundw
                case rel => exact ⟨i + 1, hlt, by go_num, by rw [HNX.out], BB.out⟩
                case measure => simp [intOf]; omega
    · obtain rfl : i = n := by omega
      have hi1 : ¬ (i : Int) < (i : Int) := by omega
      have HR : Hid (R = toS (joinL ((l.take i).map (ruleL 200)))) := Lib.hid (by rw [HR0.out, List.take_of_length_le (by rw [HN.out]; exact Nat.le_refl _)])
      clear hbel ab al
      go_wp2
      go_ret
      rw [HR.out]
      first
        | exact ⟨rfl, BB.out⟩
        | (rw [List.map_take]; exact ⟨rfl, BB.out⟩)
end Go.Proofs.YtcjfealalokjaaaGreatDoor
