/- JoLaw: merged. -/
import Derived.Deep.Light
import Derived.Test.YtlcljphbldjieaaGreatDoorJo38
set_option linter.all false
namespace Go.Proofs.YtlcljphbldjieaaGreatDoor
open Go Go.RowKit
set_option maxRecDepth 100000 in
set_option maxHeartbeats 16000000 in
theorem jsonOrder_any (ns : List ByteArray) (vs : List J) (K A : Option Addr) (d c : Nat) (tr : Int) (w : World) (ha : Ask5 w) (hz : ∀ t ∈ ns, t.size ≤ 1000000000) (hM : ∀ x ∈ vs, Mild x) (htr : 0 ≤ tr ∧ tr ≤ 255)
    (hn : ns ≠ [] → ∃ b o, K = some ⟨b, o, none⟩ ∧ b < w.heap.size ∧ ∀ i, i < ns.length → ∃ t, ns[i]? = some t ∧ t.size ≤ 9223372036854775807 ∧ w.cell? ⟨b, o + i, none⟩ = some (.string t))
    (hv : vs ≠ [] → ∃ b o, A = some ⟨b, o, none⟩ ∧ b < w.heap.size ∧ RepC w b o vs) :
    Calls Tryz.prog 9 #[.slice K ns.length d, .slice A vs.length c, .int .u8 tr] w fun e w' => e = .returned (.bool true) ∧ Below w.heap.size w w' := by
  have HAL := Lib.hid (alive5_any w ha)
  have HA := Lib.hid ha
  have HMEM : Hid (ns.length ≤ vs.length → 0 < ns.length → _) := Lib.hid (fun hl h0 => memb_all w ns vs K A hl h0 hz hM hn hv)
  obtain ⟨N, hN⟩ : ∃ n, n = ns.length := ⟨_, rfl⟩
  obtain ⟨M, hMl⟩ : ∃ n, n = vs.length := ⟨_, rfl⟩
  obtain ⟨ms, hms⟩ : ∃ ms, ms = ns.zip vs := ⟨_, rfl⟩
  rw [← hN, ← hMl, ← hms] at HMEM
  have HLEN : Hid (N ≤ M → ms.length = N) := Lib.hid (fun h => by rw [hms, List.length_zip]; omega)
  rw [← hN, ← hMl]
  obtain ⟨tn, htn⟩ : ∃ k : Nat, tr = (k : Int) := ⟨tr.toNat, by omega⟩
  subst htn
  have hwt : IntKind.i64.wrap ((tn : Nat) : Int) = (tn : Int) := by rw [IntKind.wrap_i64]; omega
  clear ha hn hv hz hM hN hMl hms
  by_cases h12 : N ≤ 12
  case neg =>
    have hI : (12 : Int) < (N : Int) := by omega
    go_enter Tryz.func9, Tryz.ntmps9
    go_wp2_with fail
    refine HAL.out.mono ?_
    rintro e w1 ⟨rfl, hb⟩
    have HB1 := Lib.hid hb
    clear hb
    go_wp2_with fail
    go_ret
    exact ⟨rfl, HB1.out⟩
  case pos =>
  by_cases hNM : N ≤ M
  case neg =>
    have hI : ¬ (12 : Int) < (N : Int) := by omega
    have hJ : (M : Int) < (N : Int) := by omega
    go_enter Tryz.func9, Tryz.ntmps9
    go_wp2_with fail
    refine HAL.out.mono ?_
    rintro e w1 ⟨rfl, hb⟩
    have HB1 := Lib.hid hb
    clear hb
    go_wp2_with fail
    go_ret
    exact ⟨rfl, HB1.out⟩
  case pos =>
  have hI : ¬ (12 : Int) < (N : Int) := by omega
  have hJ : ¬ (M : Int) < (N : Int) := by omega
  replace HMEM := Lib.hid (HMEM.out hNM)
  have hml := HLEN.out hNM
  have HML := Lib.hid hml
  clear hml HLEN
  go_enter Tryz.func9, Tryz.ntmps9
  go_wp2_with fail
  refine HAL.out.mono ?_
  rintro e w1 ⟨rfl, hb⟩
  have HB1 := Lib.hid hb
  clear hb
  go_wp2
  have HST := Lib.hid (OrdM.start w w1 HB1.out)
  try rw [show decide ((12 : Int) < (N : Int)) = false from decide_eq_false (by omega)]
  rw [show decide (M < N) = false from decide_eq_false (by omega)]
  try rw [show (false || false) = false from rfl]
  go_loopw [7, 8, 9, 10, 11, 12] (fun l m a b n iv wr => ∃ (i : Nat) (sa sb : ByteArray) (k : Int) (zl zm : List MC), a = .string sa ∧ b = .string sb ∧ n = .int .i64 k ∧ iv = .int .i64 (i : Int) ∧ i ≤ N ∧ OrdM w wr (ms.take i) (rotL ms tn i) l m zl zm ∧ TxI ms tn i sa sb k) (fun _ _ _ _ _ iv _ => N - (intOf iv).toNat)
  case atStart => exact ⟨0, ⟨#[]⟩, ⟨#[]⟩, 0, [], [], rfl, rfl, rfl, rfl, Nat.zero_le _, HST.out, rfl, rfl, rfl, List.nodup_nil, fun m h => by simp at h, fun m h => by simp [rotL] at h⟩
  case round =>
    obtain ⟨i, sa, sb, k, zl, zm, rfl, rfl, rfl, rfl, hi, hO, hT⟩ := hrel
    obtain ⟨vl, rfl⟩ : ∃ v, v = u7 := ⟨_, rfl⟩
    obtain ⟨vm, rfl⟩ : ∃ v, v = u8 := ⟨_, rfl⟩
    have HO := Lib.hid hO
    have HT := Lib.hid hT
    have hsm := hT.small (by omega)
    clear hO hT HST
    by_cases hlt : i < N
    · as_aux_lemma =>
      obtain ⟨gn, on, gv, ov, rfl, rfl, hmem⟩ := HMEM.out (by omega)
      have HME := Lib.hid hmem
      clear hmem HMEM HAL
      obtain ⟨q, hq⟩ : ∃ q, q = (i + tn) % N := ⟨_, rfl⟩
      have hqN : q < N := by rw [hq]; exact Nat.mod_lt _ (by omega)
      obtain ⟨t1, y, y0, y1, y2, yA, yp, yc, yK, yq, yd, e1, hm1⟩ := HME.out i hlt
      obtain ⟨t2, z, z0, z1, z2, zA, zp, zc, zK, zq, zd, e2, hm2⟩ := HME.out q hqN
      have HE1 := Lib.hid e1
      have HE2 := Lib.hid e2
      have H1 := Lib.hid hm1
      have H2 := Lib.hid hm2
      have hadd : IntKind.i64.wrap ((i : Int) + (tn : Int)) = ((i + tn : Nat) : Int) := by rw [IntKind.wrap_i64]; omega
      have hmod : ((i : Int) + (tn : Int)) % (N : Int) = (q : Int) := by rw [hq]; push_cast; rfl
      have HQ := Lib.hid hq
      have hN0 : ¬ (N : Int) = 0 := by omega
      have hNb : ((N : Int) == 0) = false := by simp; omega
      have hi0 : (0 : Int) ≤ (i : Int) := by omega
      have hi1 : (i : Int) < (N : Int) := by omega
      have hq0 : (0 : Int) ≤ (q : Int) := by omega
      have hq1 : (q : Int) < (N : Int) := by omega
      have hiM : (i : Int) < (M : Int) := by omega
      have hqM : (q : Int) < (M : Int) := by omega
      have hNp : (0 : Int) < (N : Int) := by omega
      clear e1 e2 hm1 hm2 hq
      go_wp2
      rename World => wo
      go_loopw [14] (fun xv wx => ∃ x : Nat, xv = .int .i64 (x : Int) ∧ x ≤ i ∧ wo.grownBy wx none ∧ ∀ y, y < x → ∀ t u, ms.getD y (⟨#[]⟩, zeroJ) = (t, u) → t ≠ t1) (fun xv _ => i - (intOf xv).toNat)
      case atStart => exact ⟨0, rfl, Nat.zero_le _, grownBy_refl wo none, fun y hy => absurd hy (Nat.not_lt_zero _)⟩
      case round =>
        obtain ⟨x, rfl, hx, hg, hall⟩ := hrel
        have HG := Lib.hid hg
        have HAL := Lib.hid hall
        have HBW : Hid (Below w.heap.size w wr) := Lib.hid (HO.out.bel.grown hg HO.out.bel.size (fun k hk => by cases hk))
        clear hg hall
        by_cases hxi : x < i
        · obtain ⟨t3, u, u0, u1, u2, uA, up, uc, uK, uq, ud, e3, hm3⟩ := HME.out x (by omega)
          have HE3 := Lib.hid e3
          have H3 := Lib.hid hm3
          clear e3 hm3
          have hx0 : (0 : Int) ≤ (x : Int) := by omega
          have hx1 : (x : Int) < (N : Int) := by omega
          have hxz : (x : Int) < (i : Int) := by omega
          have an : wr.cell? ⟨gn, on + x, none⟩ = some (.string t3) := ((HBW.out).cell (p := ⟨gn, on + x, none⟩) H3.out.2.2.1).trans H3.out.2.2.2.2.2.1
          have bn : wr.cell? ⟨gn, on + i, none⟩ = some (.string t1) := ((HBW.out).cell (p := ⟨gn, on + i, none⟩) H1.out.2.2.1).trans H1.out.2.2.2.2.2.1
          by_cases he : t3 = t1
          · have e9 : (t3.toList == t1.toList) = true := by rw [eq_toList]; exact decide_eq_true he
            go_wp2_with fail
            go_quiet (fail)
            go_wp2_with fail
            go_ret
            exact ⟨rfl, by first | exact HBW.out.drew | exact HBW.out | exact HBW.out.grown (grown_drewN _ none) HBW.out.size (fun k hk => by cases hk)⟩
          · have e9 : (t3.toList == t1.toList) = false := by rw [eq_toList]; exact decide_eq_false he
            go_wp2_with fail
            go_quiet (fail)
            go_wp2_with fail
            go_roundw
            case rel =>
              refine ⟨x + 1, by go_num, by omega, HG.out.trans (by first | exact grown_drewN _ none | exact grownBy_drew (grownBy_refl _ _)), fun y hy t u' e => ?_⟩
              rcases Nat.lt_or_ge y x with h | h
              · exact HAL.out y h t u' e
              · obtain rfl : y = x := by omega
                rw [HE3.out] at e
                injection e with e _
                rw [← e]; exact he
            case measure => simp [intOf]; omega
        · obtain rfl : x = i := by omega
          have hxz : ¬ (x : Int) < (x : Int) := by omega
          have HOW := Lib.hid (HO.out.moved HG.out)
          clear HO HG
          have an : wr.cell? ⟨gn, on + x, none⟩ = some (.string t1) := ((HBW.out).cell (p := ⟨gn, on + x, none⟩) H1.out.2.2.1).trans H1.out.2.2.2.2.2.1
          go_wp2_with fail
          refine (text_any t1 _ (by have := H1.out.1; omega)).mono ?_
          rintro e w2 ⟨rfl, hb⟩
          have HB2 := Lib.hid (HBW.out.trans (hb.mono HBW.out.size))
          have HL2 := Lib.hid hb
          clear hb an
          go_wp2_with fail
          refine (print_tells (textJ t1) _ _ (textJ_rep t1 _ (by have := H1.out.1; omega)) (textJ_mild t1 H1.out.1) (HA.out.marks.below HB2.out)).mono ?_
          rintro e w3 ⟨T1, ev1, rfl, hp1, hb⟩
          have HB3 := Lib.hid (HB2.out.trans (hb.mono HB2.out.size))
          have HL3 := Lib.hid (HL2.out.trans (hb.mono HL2.out.size))
          have HP1 := Lib.hid hp1
          clear hb hp1
          have an : w3.cell? ⟨gn, on + q, none⟩ = some (.string t2) := ((HB3.out).cell (p := ⟨gn, on + q, none⟩) H2.out.2.2.1).trans H2.out.2.2.2.2.2.1
          go_wp2_with fail
          refine (text_any t2 _ (by have := H2.out.1; omega)).mono ?_
          rintro e w4 ⟨rfl, hb⟩
          have HB4 := Lib.hid (HB3.out.trans (hb.mono HB3.out.size))
          have HL4 := Lib.hid (HL3.out.trans (hb.mono HL3.out.size))
          clear hb an
          go_wp2_with fail
          refine (print_tells (textJ t2) _ _ (textJ_rep t2 _ (by have := H2.out.1; omega)) (textJ_mild t2 H2.out.1) (HA.out.marks.below HB4.out)).mono ?_
          rintro e w5 ⟨T2, ev2, rfl, hp2, hb⟩
          have HB5 := Lib.hid (HB4.out.trans (hb.mono HB4.out.size))
          have HL5 := Lib.hid (HL4.out.trans (hb.mono HL4.out.size))
          have HP2 := Lib.hid hp2
          clear hb hp2
          have c0 : w5.cell? ⟨gv, ov + x * 5, none⟩ = some (.int .i64 y0) := ((HB5.out).cell (p := ⟨gv, ov + x * 5, none⟩) H1.out.2.2.2.1).trans H1.out.2.2.2.2.2.2.1; have c1 : w5.cell? ⟨gv, ov + x * 5 + 1, none⟩ = some (.int .i64 y1) := ((HB5.out).cell (p := ⟨gv, ov + x * 5 + 1, none⟩) H1.out.2.2.2.1).trans H1.out.2.2.2.2.2.2.2.1; have c2 : w5.cell? ⟨gv, ov + x * 5 + 2, none⟩ = some (.string y2) := ((HB5.out).cell (p := ⟨gv, ov + x * 5 + 2, none⟩) H1.out.2.2.2.1).trans H1.out.2.2.2.2.2.2.2.2.1; have c3 : w5.cell? ⟨gv, ov + x * 5 + 3, none⟩ = some (.slice yA yp yc) := ((HB5.out).cell (p := ⟨gv, ov + x * 5 + 3, none⟩) H1.out.2.2.2.1).trans H1.out.2.2.2.2.2.2.2.2.2.1; have c4 : w5.cell? ⟨gv, ov + x * 5 + 4, none⟩ = some (.slice yK yq yd) := ((HB5.out).cell (p := ⟨gv, ov + x * 5 + 4, none⟩) H1.out.2.2.2.1).trans H1.out.2.2.2.2.2.2.2.2.2.2
          go_wp2_with fail
          refine (print_tells y _ _ (RepJ.below HB5.out _ _ H1.out.2.2.2.2.1) H1.out.2.1 (HA.out.marks.below HB5.out)).mono ?_
          rintro e w6 ⟨T3, ev3, rfl, hp3, hb⟩
          have HB6 := Lib.hid (HB5.out.trans (hb.mono HB5.out.size))
          have HL6 := Lib.hid (HL5.out.trans (hb.mono HL5.out.size))
          have HP3 := Lib.hid hp3
          clear hb hp3 c0 c1 c2 c3 c4
          have c0 : w6.cell? ⟨gv, ov + q * 5, none⟩ = some (.int .i64 z0) := ((HB6.out).cell (p := ⟨gv, ov + q * 5, none⟩) H2.out.2.2.2.1).trans H2.out.2.2.2.2.2.2.1; have c1 : w6.cell? ⟨gv, ov + q * 5 + 1, none⟩ = some (.int .i64 z1) := ((HB6.out).cell (p := ⟨gv, ov + q * 5 + 1, none⟩) H2.out.2.2.2.1).trans H2.out.2.2.2.2.2.2.2.1; have c2 : w6.cell? ⟨gv, ov + q * 5 + 2, none⟩ = some (.string z2) := ((HB6.out).cell (p := ⟨gv, ov + q * 5 + 2, none⟩) H2.out.2.2.2.1).trans H2.out.2.2.2.2.2.2.2.2.1; have c3 : w6.cell? ⟨gv, ov + q * 5 + 3, none⟩ = some (.slice zA zp zc) := ((HB6.out).cell (p := ⟨gv, ov + q * 5 + 3, none⟩) H2.out.2.2.2.1).trans H2.out.2.2.2.2.2.2.2.2.2.1; have c4 : w6.cell? ⟨gv, ov + q * 5 + 4, none⟩ = some (.slice zK zq zd) := ((HB6.out).cell (p := ⟨gv, ov + q * 5 + 4, none⟩) H2.out.2.2.2.1).trans H2.out.2.2.2.2.2.2.2.2.2.2
          go_wp2_with fail
          refine (print_tells z _ _ (RepJ.below HB6.out _ _ H2.out.2.2.2.2.1) H2.out.2.1 (HA.out.marks.below HB6.out)).mono ?_
          rintro e w7 ⟨T4, ev4, rfl, hp4, hb⟩
          have HB7 := Lib.hid (HB6.out.trans (hb.mono HB6.out.size))
          have HL7 := Lib.hid (HL6.out.trans (hb.mono HL6.out.size))
          clear hb c0 c1 c2 c3 c4
          rcases HP1.out with ⟨rfl, r1, l1, s1⟩ | ⟨k1, rfl⟩
          case inr => go_wp2_with fail; go_ret; exact ⟨rfl, HB7.out⟩
          rcases HP2.out with ⟨rfl, r2, l2, s2⟩ | ⟨k2, rfl⟩
          case inr => go_wp2_with fail; go_ret; exact ⟨rfl, HB7.out⟩
          rcases HP3.out with ⟨rfl, r3, l3, s3⟩ | ⟨k3, rfl⟩
          case inr => go_wp2_with fail; go_ret; exact ⟨rfl, HB7.out⟩
          rcases hp4 with ⟨rfl, r4, l4, s4⟩ | ⟨k4, rfl⟩
          case inr => go_wp2_with fail; go_ret; exact ⟨rfl, HB7.out⟩
          clear HP1 HP2 HP3
          have b1 : T1.size ≤ 4096 := by rw [← length_strL, s1]; exact l1
          have b2 : T2.size ≤ 4096 := by rw [← length_strL, s2]; exact l2
          have b3 : T3.size ≤ 4096 := by rw [← length_strL, s3]; exact l3
          have b4 : T4.size ≤ 4096 := by rw [← length_strL, s4]; exact l4
          rw [textJ_text] at s1 s2 l1 l2
          have HPR : Hid (Prd (t1, y) ∧ Prd (t2, z)) := Lib.hid ⟨⟨textJ_utf t1 r1, r3, l1, l3⟩, ⟨textJ_utf t2 r2, r4, l2, l4⟩⟩
          have HS : Hid (strL T1 = quoteL (strL t1) ∧ strL T2 = quoteL (strL t2) ∧ strL T3 = textL y ∧ strL T4 = textL z) := Lib.hid ⟨s1, s2, s3, s4⟩
          have HOX := Lib.hid (HOW.out.moved (grownBy_of_below HL7.out none))
          clear r1 r2 r3 r4 l1 l2 l3 l4 s1 s2 s3 s4 HOW HL2 HL3 HL4 HL5 HL6 HL7 HB2 HB3 HB4 HB5 HB6 HBW
          go_upto_if 119 with fail
          go_cut [9, 10] from 39 to 167 (fun va vb wx => ∃ sa1 sb1, va = .string sa1 ∧ vb = .string sb1 ∧ strL sa1 = strL sa ++ (if x = 0 then [] else [44]) ∧ strL sb1 = strL sb ++ (if x = 0 then [] else [32, 44]) ∧ sa1.size ≤ 98377 ∧ sb1.size ≤ 98378 ∧ wx = w7)
          case first =>
            obtain ⟨bb, hbb⟩ : ∃ b, b = decide (0 < x) := ⟨_, rfl⟩
            rw [← hbb]
            cases bb with
            | false =>
              have H0 : Hid (x = 0) := Lib.hid (by have := of_decide_eq_false hbb.symm; omega)
              clear hbb
              go_wp2_with fail
              go_meet
              case rel => exact ⟨sa, sb, rfl, rfl, by rw [if_pos H0.out, List.append_nil], by rw [if_pos H0.out, List.append_nil], by omega, by omega, rfl⟩
            | true =>
              have H0 : Hid (¬ x = 0) := Lib.hid (by have := of_decide_eq_true hbb.symm; omega)
              clear hbb
              have hs1 : sa.size + (⟨#[44]⟩ : ByteArray).size ≤ 9223372036854775807 := by show sa.size + 1 ≤ _; omega
              have hs2 : sb.size + (⟨#[32, 44]⟩ : ByteArray).size ≤ 9223372036854775807 := by show sb.size + 2 ≤ _; omega
              go_wp2_with fail
              go_meet
              case rel => exact ⟨sa ++ ⟨#[44]⟩, sb ++ ⟨#[32, 44]⟩, rfl, rfl, by rw [if_neg H0.out, strL_append]; rfl, by rw [if_neg H0.out, strL_append]; rfl, by rw [ByteArray.size_append]; show sa.size + 1 ≤ _; omega, by rw [ByteArray.size_append]; show sb.size + 2 ≤ _; omega, rfl⟩
          case rest =>
          obtain ⟨sa1, sb1, rfl, rfl, c1, c2, c3, c4, rfl⟩ := hcut
          rename World => w7
          have HC := Lib.hid (And.intro c1 c2)
          clear c1 c2
          obtain ⟨u1, hu1⟩ : ∃ u, u = sa1 ++ T1 := ⟨_, rfl⟩
          have z1 : u1.size ≤ 200000 := by rw [hu1, ByteArray.size_append]; omega
          obtain ⟨u2, hu2⟩ : ∃ u, u = u1 ++ ⟨#[58]⟩ := ⟨_, rfl⟩
          have z2 : u2.size ≤ 200001 := by rw [hu2, ByteArray.size_append]; show u1.size + 1 ≤ _; omega
          obtain ⟨u3, hu3⟩ : ∃ u, u = u2 ++ T3 := ⟨_, rfl⟩
          obtain ⟨v1, hv1⟩ : ∃ u, u = sb1 ++ T2 := ⟨_, rfl⟩
          have z3 : v1.size ≤ 200000 := by rw [hv1, ByteArray.size_append]; omega
          obtain ⟨v2, hv2⟩ : ∃ u, u = v1 ++ ⟨#[32, 58, 32]⟩ := ⟨_, rfl⟩
          have z4 : v2.size ≤ 200003 := by rw [hv2, ByteArray.size_append]; show v1.size + 3 ≤ _; omega
          obtain ⟨v3, hv3⟩ : ∃ u, u = v2 ++ T4 := ⟨_, rfl⟩
          have a1 : sa1.size + T1.size ≤ 9223372036854775807 := by omega
          have a2 : u1.size + (⟨#[58]⟩ : ByteArray).size ≤ 9223372036854775807 := by show u1.size + 1 ≤ _; omega
          have a3 : u2.size + T3.size ≤ 9223372036854775807 := by omega
          have a4 : sb1.size + T2.size ≤ 9223372036854775807 := by omega
          have a5 : v1.size + (⟨#[32, 58, 32]⟩ : ByteArray).size ≤ 9223372036854775807 := by show v1.size + 3 ≤ _; omega
          have a6 : v2.size + T4.size ≤ 9223372036854775807 := by omega
          rw [hu1] at a2
          rw [hu2, hu1] at a3
          rw [hv1] at a5
          rw [hv2, hv1] at a6
          have HU : Hid (strL (sa1 ++ T1 ++ ⟨#[58]⟩ ++ T3) = strL sa ++ ((if x = 0 then [] else [44]) ++ (quoteL (strL t1) ++ ([58] ++ textL y)))) := Lib.hid (by
            rw [strL_append, strL_append, strL_append, HC.out.1, HS.out.1, HS.out.2.2.1]; simp [strL])
          have HV : Hid (strL (sb1 ++ T2 ++ ⟨#[32, 58, 32]⟩ ++ T4) = strL sb ++ ((if x = 0 then [] else [32, 44]) ++ (quoteL (strL t2) ++ ([32, 58, 32] ++ textL z)))) := Lib.hid (by
            rw [strL_append, strL_append, strL_append, HC.out.2, HS.out.2.1, HS.out.2.2.2]; simp [strL])
          have w1a : IntKind.i64.wrap (k + (T1.size : Int)) = k + (T1.size : Int) := by rw [IntKind.wrap_i64]; omega
          have w1b : IntKind.i64.wrap (k + (T1.size : Int) + (T3.size : Int)) = k + (T1.size : Int) + (T3.size : Int) := by rw [IntKind.wrap_i64]; omega
          have w1c : IntKind.i64.wrap (k + (T1.size : Int) + (T3.size : Int) + 6) = k + (T1.size : Int) + (T3.size : Int) + 6 := by rw [IntKind.wrap_i64]; omega
          clear hu1 hu2 hu3 hv1 hv2 hv3 z1 z2 z3 z4
          obtain ⟨iM, hM, hM0, hM1, hM2⟩ := info_parts infoMp
          go_upto_region 31 with fail
          obtain ⟨SA, hSA⟩ : ∃ s, s = sa1 ++ T1 ++ ⟨#[58]⟩ ++ T3 := ⟨_, rfl⟩
          obtain ⟨SB, hSB⟩ : ∃ s, s = sb1 ++ T2 ++ ⟨#[32, 58, 32]⟩ ++ T4 := ⟨_, rfl⟩
          rw [← hSA] at HU ⊢
          rw [← hSB] at HV ⊢
          clear hSA hSB a1 a2 a3 a4 a5 a6 w1a w1b w1c
          have an : w7.cell? ⟨gn, on + x, none⟩ = some (.string t1) := ((HB7.out).cell (p := ⟨gn, on + x, none⟩) H1.out.2.2.1).trans H1.out.2.2.2.2.2.1
          have c0 : w7.cell? ⟨gv, ov + x * 5, none⟩ = some (.int .i64 y0) := ((HB7.out).cell (p := ⟨gv, ov + x * 5, none⟩) H1.out.2.2.2.1).trans H1.out.2.2.2.2.2.2.1; have c1 : w7.cell? ⟨gv, ov + x * 5 + 1, none⟩ = some (.int .i64 y1) := ((HB7.out).cell (p := ⟨gv, ov + x * 5 + 1, none⟩) H1.out.2.2.2.1).trans H1.out.2.2.2.2.2.2.2.1; have c2 : w7.cell? ⟨gv, ov + x * 5 + 2, none⟩ = some (.string y2) := ((HB7.out).cell (p := ⟨gv, ov + x * 5 + 2, none⟩) H1.out.2.2.2.1).trans H1.out.2.2.2.2.2.2.2.2.1; have c3 : w7.cell? ⟨gv, ov + x * 5 + 3, none⟩ = some (.slice yA yp yc) := ((HB7.out).cell (p := ⟨gv, ov + x * 5 + 3, none⟩) H1.out.2.2.2.1).trans H1.out.2.2.2.2.2.2.2.2.2.1; have c4 : w7.cell? ⟨gv, ov + x * 5 + 4, none⟩ = some (.slice yK yq yd) := ((HB7.out).cell (p := ⟨gv, ov + x * 5 + 4, none⟩) H1.out.2.2.2.1).trans H1.out.2.2.2.2.2.2.2.2.2.2
          have hx12 : x ≤ 12 := by omega
          have hsz7 : w.heap.size ≤ w7.heap.size := HB7.out.size
          have HXA8 := Lib.hid (World.grownBy_alloc w7 (.cells #[.string t1, .int .i64 y0, .int .i64 y1, .string y2, .slice yA yp yc, .slice yK yq yd] 47) none)
          have HXB8 := Lib.hid (grownBy_drew HXA8.out)
          have HXC8 : Hid (w7.grownBy (w7.drew.alloc (.cells #[.string t1, .int .i64 y0, .int .i64 y1, .string y2, .slice yA yp yc, .slice yK yq yd] 47)) none) := Lib.hid ((grownBy_drew (grownBy_refl w7 none)).trans (World.grownBy_alloc _ _ none))
          have HNX8 : Hid ((w7.drew.alloc (.cells #[.string t1, .int .i64 y0, .int .i64 y1, .string y2, .slice yA yp yc, .slice yK yq yd] 47)).heap[w7.heap.size]? = some (.cells #[.string t1, .int .i64 y0, .int .i64 y1, .string y2, .slice yA yp yc, .slice yK yq yd] 47)) := Lib.hid (heap_alloc_new w7 _)
          have HNW8 : Hid ((w7.alloc (.cells #[.string t1, .int .i64 y0, .int .i64 y1, .string y2, .slice yA yp yc, .slice yK yq yd] 47)).drew.heap[w7.heap.size]? = some (.cells #[.string t1, .int .i64 y0, .int .i64 y1, .string y2, .slice yA yp yc, .slice yK yq yd] 47)) := Lib.hid (heap_alloc_new w7 _)
          have HOWN8 : Hid (∀ X, w7.grownBy X none → X.ownsRow w.heap.size 47 6 vl x (flatM zl)) := Lib.hid (fun X h => by
            have := (HOX.out.moved h).ol
            rwa [List.length_take, Nat.min_eq_left (by have := HML.out; omega)] at this)
          have HKA8 : Hid (∀ X, w7.grownBy X none → X.cell? ⟨gn, on + x, none⟩ = some (.string t1) ∧ X.cell? ⟨gv, ov + x * 5, none⟩ = some (.int .i64 y0) ∧ X.cell? ⟨gv, ov + x * 5 + 1, none⟩ = some (.int .i64 y1) ∧ X.cell? ⟨gv, ov + x * 5 + 2, none⟩ = some (.string y2) ∧ X.cell? ⟨gv, ov + x * 5 + 3, none⟩ = some (.slice yA yp yc) ∧ X.cell? ⟨gv, ov + x * 5 + 4, none⟩ = some (.slice yK yq yd)) := Lib.hid (fun X g1 => by
            have hb : Below w.heap.size w X := HB7.out.grown g1 HB7.out.size (fun b hb => by cases hb)
            exact ⟨(hb.cell (p := ⟨gn, on + x, none⟩) H1.out.2.2.1).trans H1.out.2.2.2.2.2.1, (hb.cell (p := ⟨gv, ov + x * 5, none⟩) H1.out.2.2.2.1).trans H1.out.2.2.2.2.2.2.1, (hb.cell (p := ⟨gv, ov + x * 5 + 1, none⟩) H1.out.2.2.2.1).trans H1.out.2.2.2.2.2.2.2.1, (hb.cell (p := ⟨gv, ov + x * 5 + 2, none⟩) H1.out.2.2.2.1).trans H1.out.2.2.2.2.2.2.2.2.1, (hb.cell (p := ⟨gv, ov + x * 5 + 3, none⟩) H1.out.2.2.2.1).trans H1.out.2.2.2.2.2.2.2.2.2.1, (hb.cell (p := ⟨gv, ov + x * 5 + 4, none⟩) H1.out.2.2.2.1).trans H1.out.2.2.2.2.2.2.2.2.2.2⟩)
          have hbl8 := fun W : World => run_memb W t1 y2 y0 y1 yA yK yp yc yq yd
          have HKEEP8 : Hid (∀ X Y, w7.grownBy X none → X.grownBy Y vl.ownBlock → Y.cell? ⟨gn, on + x, none⟩ = some (.string t1) ∧ Y.cell? ⟨gv, ov + x * 5, none⟩ = some (.int .i64 y0) ∧ Y.cell? ⟨gv, ov + x * 5 + 1, none⟩ = some (.int .i64 y1) ∧ Y.cell? ⟨gv, ov + x * 5 + 2, none⟩ = some (.string y2) ∧ Y.cell? ⟨gv, ov + x * 5 + 3, none⟩ = some (.slice yA yp yc) ∧ Y.cell? ⟨gv, ov + x * 5 + 4, none⟩ = some (.slice yK yq yd)) := Lib.hid (fun X Y g1 g2 => by
            have hb1 : Below w.heap.size w X := HB7.out.grown g1 HB7.out.size (fun b hb => by cases hb)
            have hb : Below w.heap.size w Y := hb1.grown g2 hb1.size (fun b hb => (HOX.out.ol.lt b hb).1)
            exact ⟨(hb.cell (p := ⟨gn, on + x, none⟩) H1.out.2.2.1).trans H1.out.2.2.2.2.2.1, (hb.cell (p := ⟨gv, ov + x * 5, none⟩) H1.out.2.2.2.1).trans H1.out.2.2.2.2.2.2.1, (hb.cell (p := ⟨gv, ov + x * 5 + 1, none⟩) H1.out.2.2.2.1).trans H1.out.2.2.2.2.2.2.2.1, (hb.cell (p := ⟨gv, ov + x * 5 + 2, none⟩) H1.out.2.2.2.1).trans H1.out.2.2.2.2.2.2.2.2.1, (hb.cell (p := ⟨gv, ov + x * 5 + 3, none⟩) H1.out.2.2.2.1).trans H1.out.2.2.2.2.2.2.2.2.2.1, (hb.cell (p := ⟨gv, ov + x * 5 + 4, none⟩) H1.out.2.2.2.1).trans H1.out.2.2.2.2.2.2.2.2.2.2⟩)
          refine wp_region_held_drew (S := fun V => V.cell? ⟨gn, on + x, none⟩ = some (.string t1) ∧ V.cell? ⟨gv, ov + x * 5, none⟩ = some (.int .i64 y0) ∧ V.cell? ⟨gv, ov + x * 5 + 1, none⟩ = some (.int .i64 y1) ∧ V.cell? ⟨gv, ov + x * 5 + 2, none⟩ = some (.string y2) ∧ V.cell? ⟨gv, ov + x * 5 + 3, none⟩ = some (.slice yA yp yc) ∧ V.cell? ⟨gv, ov + x * 5 + 4, none⟩ = some (.slice yK yq yd)) (by kernel_rfl) (HKA8.out _ (grownBy_drew (grownBy_refl w7 none))) (fun hHeld => ?_)
          refine wpAnyH_take (i := 0) (v := ?v8x0) rfl (by kernel_rfl) (by kernel_rfl) (by kernel_rfl) (fun _ _ _ h => h) (Or.inl ⟨by rfl, ?hy8x0⟩) (by assumption) ?rest8x0
          case hy8x0 => (go_light; intro W hSw; obtain ⟨hS0, hS1, hS2, hS3, hS4, hS5⟩ := hSw; first | (go_simp; done) | (go_simp; with_reducible rfl))
          try simp only [List.getElem_toArray, List.getElem_cons_succ, List.getElem_cons_zero, Act.put, List.setIfInBounds_toArray, List.set_cons_zero, List.set_cons_succ]
          refine wpAnyH_take (i := 1) (v := ?v8x1) rfl (by kernel_rfl) (by kernel_rfl) (by kernel_rfl) (fun _ _ _ h => h) (Or.inl ⟨by rfl, ?hy8x1⟩) (by assumption) ?rest8x1
          case hy8x1 => (go_light; intro W hSw; obtain ⟨hS0, hS1, hS2, hS3, hS4, hS5⟩ := hSw; first | (go_simp; done) | (go_simp; with_reducible rfl))
          try simp only [List.getElem_toArray, List.getElem_cons_succ, List.getElem_cons_zero, Act.put, List.setIfInBounds_toArray, List.set_cons_zero, List.set_cons_succ]
          refine wpAnyH_take (i := 2) (v := ?v8x2) rfl (by kernel_rfl) (by kernel_rfl) (by kernel_rfl) (fun _ _ _ h => h) (Or.inl ⟨by rfl, ?hy8x2⟩) (by assumption) ?rest8x2
          case hy8x2 => (go_light; intro W hSw; obtain ⟨hS0, hS1, hS2, hS3, hS4, hS5⟩ := hSw; first | (go_simp; done) | (go_simp; with_reducible rfl))
          try simp only [List.getElem_toArray, List.getElem_cons_succ, List.getElem_cons_zero, Act.put, List.setIfInBounds_toArray, List.set_cons_zero, List.set_cons_succ]
          refine wpAnyH_take (i := 3) (v := ?v8x3) rfl (by kernel_rfl) (by kernel_rfl) (by kernel_rfl) (fun _ _ _ h => h) (Or.inl ⟨by rfl, ?hy8x3⟩) (by assumption) ?rest8x3
          case hy8x3 => (go_light; intro W hSw; obtain ⟨hS0, hS1, hS2, hS3, hS4, hS5⟩ := hSw; first | (go_simp; done) | (go_simp; with_reducible rfl))
          try simp only [List.getElem_toArray, List.getElem_cons_succ, List.getElem_cons_zero, Act.put, List.setIfInBounds_toArray, List.set_cons_zero, List.set_cons_succ]
          refine wpAnyH_take (i := 4) (v := ?v8x4) rfl (by kernel_rfl) (by kernel_rfl) (by kernel_rfl) (fun _ _ _ h => h) (Or.inl ⟨by rfl, ?hy8x4⟩) (by assumption) ?rest8x4
          case hy8x4 => (go_light; intro W hSw; obtain ⟨hS0, hS1, hS2, hS3, hS4, hS5⟩ := hSw; first | (go_simp; done) | (go_simp; with_reducible rfl))
          try simp only [List.getElem_toArray, List.getElem_cons_succ, List.getElem_cons_zero, Act.put, List.setIfInBounds_toArray, List.set_cons_zero, List.set_cons_succ]
          refine wpAnyH_take (i := 5) (v := ?v8x5) rfl (by kernel_rfl) (by kernel_rfl) (by kernel_rfl) (fun _ _ _ h => h) (Or.inl ⟨by rfl, ?hy8x5⟩) (by assumption) ?rest8x5
          case hy8x5 => (go_light; intro W hSw; obtain ⟨hS0, hS1, hS2, hS3, hS4, hS5⟩ := hSw; first | (go_simp; done) | (go_simp; with_reducible rfl))
          try simp only [List.getElem_toArray, List.getElem_cons_succ, List.getElem_cons_zero, Act.put, List.setIfInBounds_toArray, List.set_cons_zero, List.set_cons_succ]
          refine wpAnyH_take (i := 6) (v := ?v8x6) rfl (by kernel_rfl) (by kernel_rfl) (by kernel_rfl) (fun _ _ _ h => h) (Or.inl ⟨by rfl, ?hy8x6⟩) (by assumption) ?rest8x6
          case hy8x6 => (go_light; intro W hSw; obtain ⟨hS0, hS1, hS2, hS3, hS4, hS5⟩ := hSw; first | (go_simp; done) | (go_simp; with_reducible rfl))
          try simp only [List.getElem_toArray, List.getElem_cons_succ, List.getElem_cons_zero, Act.put, List.setIfInBounds_toArray, List.set_cons_zero, List.set_cons_succ]
          refine wpAnyH_take (i := 7) (v := ?v8x7) rfl (by kernel_rfl) (by kernel_rfl) (by kernel_rfl) (fun _ _ _ h => h) (Or.inl ⟨by rfl, ?hy8x7⟩) (by assumption) ?rest8x7
          case hy8x7 => (go_light; intro W hSw; obtain ⟨hS0, hS1, hS2, hS3, hS4, hS5⟩ := hSw; first | (go_simp; done) | (go_simp; with_reducible rfl))
          try simp only [List.getElem_toArray, List.getElem_cons_succ, List.getElem_cons_zero, Act.put, List.setIfInBounds_toArray, List.set_cons_zero, List.set_cons_succ]
          refine wpAnyH_take (i := 8) (v := ?v8x8) rfl (by kernel_rfl) (by kernel_rfl) (by kernel_rfl) (fun _ _ _ h => h) (Or.inl ⟨by rfl, ?hy8x8⟩) (by assumption) ?rest8x8
          case hy8x8 => (go_light; intro W hSw; obtain ⟨hS0, hS1, hS2, hS3, hS4, hS5⟩ := hSw; first | (go_simp; done) | (go_simp; with_reducible rfl))
          try simp only [List.getElem_toArray, List.getElem_cons_succ, List.getElem_cons_zero, Act.put, List.setIfInBounds_toArray, List.set_cons_zero, List.set_cons_succ]
          refine wpAnyH_ready (rs := [9]) (by kernel_rfl) (by simp) ?_
          refine AllReadyH.cons rfl (fun K hK => ?_) AllReadyH.nil
          rw [if_pos (by kernel_rfl)]
          refine wp_build_of 47 _ rfl [(0, .string t1), (1, .agg #[.int .i64 y0, .int .i64 y1, .string y2, .slice yA yp yc, .slice yK yq yd])] _ (by kernel_rfl) (built_memb t1 y2 y0 y1 yA yK yp yc yq yd) ?_
          refine hK.out _ _ (HKA8.out _ (grownBy_drew (grownBy_refl w7 none))) (fun hHa => ?_)
          clear hK K
          try simp only [List.getElem_toArray, List.getElem_cons_succ, List.getElem_cons_zero, Act.put, List.setIfInBounds_toArray, List.set_cons_zero, List.set_cons_succ]
          refine wpAnyH_ready (rs := [10]) (by kernel_rfl) (by simp) ?_
          refine AllReadyH.cons rfl (fun K hK => ?_) AllReadyH.nil
          rw [if_pos (by kernel_rfl)]
          refine wp_slice_memb _ rfl t1 y2 y0 y1 yA yK yp yc yq yd (by kernel_rfl) ?_
          refine hK.out _ _ (HKA8.out _ HXC8.out) (fun hHb => ?_)
          clear hK K
          try simp only [List.getElem_toArray, List.getElem_cons_succ, List.getElem_cons_zero, Act.put, List.setIfInBounds_toArray, List.set_cons_zero, List.set_cons_succ]
          refine wpAnyH_ready (rs := [11]) (by kernel_rfl) (by simp) ?_
          refine AllReadyH.cons rfl (fun K hK => ?_) AllReadyH.nil
          refine step_append_lies _ (by rfl) _ _ _ (by rfl) w.heap.size 47 iM (.agg #[.string ⟨#[]⟩, .int .i64 0, .int .i64 0, .string ⟨#[]⟩, .slice none 0 0, .slice none 0 0]) 6 96 Tryz.underlying45 hM hM0 hM1 hM2 rfl (by omega) vl x (flatM zl) (by rfl) (HOWN8.out _ HXC8.out) ⟨w7.heap.size, 0, none⟩ 1 1 [.string t1, .int .i64 y0, .int .i64 y1, .string y2, .slice yA yp yc, .slice yK yq yd] (by rfl) (by rfl) (World.news_of_block (cs := #[.string t1, .int .i64 y0, .int .i64 y1, .string y2, .slice yA yp yc, .slice yK yq yd]) (t := 47) (fr := (0, 0)) HNX8.out) (by simp [Value.oneCell']) (by omega) (by unfold maxLen; omega) (by omega) (by simp; omega) (w7.heap.size + 1) (by simp) ?_
          intro g8 cap8 w8 hown8 hgrow8 hat8 hlt8
          refine hK.out _ _ (HKEEP8.out _ _ HXC8.out hgrow8) (fun hHc => ?_)
          clear hK K
          try simp only [List.getElem_toArray, List.getElem_cons_succ, List.getElem_cons_zero, Act.put, List.setIfInBounds_toArray, List.set_cons_zero, List.set_cons_succ]
          refine wpAnyH_take (i := 12) (v := ?v8x12) rfl (by kernel_rfl) (by kernel_rfl) (by kernel_rfl) (fun _ _ _ h => h) (Or.inl ⟨by rfl, ?hy8x12⟩) (by assumption) ?rest8x12
          case hy8x12 => (go_light; intro W hSw; obtain ⟨hS0, hS1, hS2, hS3, hS4, hS5⟩ := hSw; first | (go_simp; done) | (go_simp; with_reducible rfl))
          try simp only [List.getElem_toArray, List.getElem_cons_succ, List.getElem_cons_zero, Act.put, List.setIfInBounds_toArray, List.set_cons_zero, List.set_cons_succ]
          refine wpAnyH_done (by kernel_rfl) ?_ _

          all_goals
            have HO2 : Hid (OrdM w w8 (ms.take x ++ [(t1, y)]) (rotL ms tn x) (.slice (some ⟨g8, 0, none⟩) (x + 1) cap8) vm (zl ++ [⟨t1, .int .i64 y0, .int .i64 y1, .string y2, .slice yA yp yc, .slice yK yq yd⟩]) zm) := Lib.hid
              (HOX.out.addl HXC8.out (by have := H1.out.1; omega) (RepS.keeps (Keeps.below HB7.out (fun b h _ => h)) (fun b h _ => h) _ _ (RepS.keeps (Keeps.refl _ w) (fun b _ hb => hb) _ _ (RepS.ofJ _ _ H1.out.2.2.2.2.1))) hgrow8 (by rw [List.length_take]; have := HML.out; omega) hown8 (hat8.imp_right (fun h => by rw [h]; simp)))
            clear hown8 hgrow8 hat8 hlt8
            have HB8 := Lib.hid HO2.out.bel
            clear an c0 c1 c2 c3 c4
            go_upto_region 32 with fail
            have hsz8 : w.heap.size ≤ w8.heap.size := HB8.out.size
            have HXC9 : Hid (w8.grownBy (w8.drew.alloc (.cells #[.string t2, .int .i64 z0, .int .i64 z1, .string z2, .slice zA zp zc, .slice zK zq zd] 47)) none) := Lib.hid ((grownBy_drew (grownBy_refl w8 none)).trans (World.grownBy_alloc _ _ none))
            have HNX9 : Hid ((w8.drew.alloc (.cells #[.string t2, .int .i64 z0, .int .i64 z1, .string z2, .slice zA zp zc, .slice zK zq zd] 47)).heap[w8.heap.size]? = some (.cells #[.string t2, .int .i64 z0, .int .i64 z1, .string z2, .slice zA zp zc, .slice zK zq zd] 47)) := Lib.hid (heap_alloc_new w8 _)
            have HOWN9 : Hid (∀ X, w8.grownBy X none → X.ownsRow w.heap.size 47 6 vm x (flatM zm)) := Lib.hid (fun X h => by
              have := (HO2.out.moved h).om
              rwa [rotL_len] at this)
            have an : w8.cell? ⟨gn, on + q, none⟩ = some (.string t2) := ((HB8.out).cell (p := ⟨gn, on + q, none⟩) H2.out.2.2.1).trans H2.out.2.2.2.2.2.1
            have c0 : w8.cell? ⟨gv, ov + q * 5, none⟩ = some (.int .i64 z0) := ((HB8.out).cell (p := ⟨gv, ov + q * 5, none⟩) H2.out.2.2.2.1).trans H2.out.2.2.2.2.2.2.1; have c1 : w8.cell? ⟨gv, ov + q * 5 + 1, none⟩ = some (.int .i64 z1) := ((HB8.out).cell (p := ⟨gv, ov + q * 5 + 1, none⟩) H2.out.2.2.2.1).trans H2.out.2.2.2.2.2.2.2.1; have c2 : w8.cell? ⟨gv, ov + q * 5 + 2, none⟩ = some (.string z2) := ((HB8.out).cell (p := ⟨gv, ov + q * 5 + 2, none⟩) H2.out.2.2.2.1).trans H2.out.2.2.2.2.2.2.2.2.1; have c3 : w8.cell? ⟨gv, ov + q * 5 + 3, none⟩ = some (.slice zA zp zc) := ((HB8.out).cell (p := ⟨gv, ov + q * 5 + 3, none⟩) H2.out.2.2.2.1).trans H2.out.2.2.2.2.2.2.2.2.2.1; have c4 : w8.cell? ⟨gv, ov + q * 5 + 4, none⟩ = some (.slice zK zq zd) := ((HB8.out).cell (p := ⟨gv, ov + q * 5 + 4, none⟩) H2.out.2.2.2.1).trans H2.out.2.2.2.2.2.2.2.2.2.2
            have HKA9 : Hid (∀ X, w8.grownBy X none → X.cell? ⟨gn, on + q, none⟩ = some (.string t2) ∧ X.cell? ⟨gv, ov + q * 5, none⟩ = some (.int .i64 z0) ∧ X.cell? ⟨gv, ov + q * 5 + 1, none⟩ = some (.int .i64 z1) ∧ X.cell? ⟨gv, ov + q * 5 + 2, none⟩ = some (.string z2) ∧ X.cell? ⟨gv, ov + q * 5 + 3, none⟩ = some (.slice zA zp zc) ∧ X.cell? ⟨gv, ov + q * 5 + 4, none⟩ = some (.slice zK zq zd)) := Lib.hid (fun X g1 => by
              have hb : Below w.heap.size w X := HB8.out.grown g1 HB8.out.size (fun b hb => by cases hb)
              exact ⟨(hb.cell (p := ⟨gn, on + q, none⟩) H2.out.2.2.1).trans H2.out.2.2.2.2.2.1, (hb.cell (p := ⟨gv, ov + q * 5, none⟩) H2.out.2.2.2.1).trans H2.out.2.2.2.2.2.2.1, (hb.cell (p := ⟨gv, ov + q * 5 + 1, none⟩) H2.out.2.2.2.1).trans H2.out.2.2.2.2.2.2.2.1, (hb.cell (p := ⟨gv, ov + q * 5 + 2, none⟩) H2.out.2.2.2.1).trans H2.out.2.2.2.2.2.2.2.2.1, (hb.cell (p := ⟨gv, ov + q * 5 + 3, none⟩) H2.out.2.2.2.1).trans H2.out.2.2.2.2.2.2.2.2.2.1, (hb.cell (p := ⟨gv, ov + q * 5 + 4, none⟩) H2.out.2.2.2.1).trans H2.out.2.2.2.2.2.2.2.2.2.2⟩)
            have hbl9 := fun W : World => run_memb W t2 z2 z0 z1 zA zK zp zc zq zd
            have HKEEP9 : Hid (∀ X Y, w8.grownBy X none → X.grownBy Y vm.ownBlock → Y.cell? ⟨gn, on + q, none⟩ = some (.string t2) ∧ Y.cell? ⟨gv, ov + q * 5, none⟩ = some (.int .i64 z0) ∧ Y.cell? ⟨gv, ov + q * 5 + 1, none⟩ = some (.int .i64 z1) ∧ Y.cell? ⟨gv, ov + q * 5 + 2, none⟩ = some (.string z2) ∧ Y.cell? ⟨gv, ov + q * 5 + 3, none⟩ = some (.slice zA zp zc) ∧ Y.cell? ⟨gv, ov + q * 5 + 4, none⟩ = some (.slice zK zq zd)) := Lib.hid (fun X Y g1 g2 => by
              have hb1 : Below w.heap.size w X := HB8.out.grown g1 HB8.out.size (fun b hb => by cases hb)
              have hb : Below w.heap.size w Y := hb1.grown g2 hb1.size (fun b hb => (HO2.out.om.lt b hb).1)
              exact ⟨(hb.cell (p := ⟨gn, on + q, none⟩) H2.out.2.2.1).trans H2.out.2.2.2.2.2.1, (hb.cell (p := ⟨gv, ov + q * 5, none⟩) H2.out.2.2.2.1).trans H2.out.2.2.2.2.2.2.1, (hb.cell (p := ⟨gv, ov + q * 5 + 1, none⟩) H2.out.2.2.2.1).trans H2.out.2.2.2.2.2.2.2.1, (hb.cell (p := ⟨gv, ov + q * 5 + 2, none⟩) H2.out.2.2.2.1).trans H2.out.2.2.2.2.2.2.2.2.1, (hb.cell (p := ⟨gv, ov + q * 5 + 3, none⟩) H2.out.2.2.2.1).trans H2.out.2.2.2.2.2.2.2.2.2.1, (hb.cell (p := ⟨gv, ov + q * 5 + 4, none⟩) H2.out.2.2.2.1).trans H2.out.2.2.2.2.2.2.2.2.2.2⟩)
            refine wp_region_held_drew (S := fun V => V.cell? ⟨gn, on + q, none⟩ = some (.string t2) ∧ V.cell? ⟨gv, ov + q * 5, none⟩ = some (.int .i64 z0) ∧ V.cell? ⟨gv, ov + q * 5 + 1, none⟩ = some (.int .i64 z1) ∧ V.cell? ⟨gv, ov + q * 5 + 2, none⟩ = some (.string z2) ∧ V.cell? ⟨gv, ov + q * 5 + 3, none⟩ = some (.slice zA zp zc) ∧ V.cell? ⟨gv, ov + q * 5 + 4, none⟩ = some (.slice zK zq zd)) (by kernel_rfl) (HKA9.out _ (grownBy_drew (grownBy_refl w8 none))) (fun hHeld => ?_)
            refine wpAnyH_take (i := 0) (v := ?v9x0) rfl (by kernel_rfl) (by kernel_rfl) (by kernel_rfl) (fun _ _ _ h => h) (Or.inl ⟨by rfl, ?hy9x0⟩) (by assumption) ?rest9x0
            case hy9x0 => (go_light; intro W hSw; obtain ⟨hS0, hS1, hS2, hS3, hS4, hS5⟩ := hSw; first | (go_simp; done) | (go_simp; with_reducible rfl))
            try simp only [List.getElem_toArray, List.getElem_cons_succ, List.getElem_cons_zero, Act.put, List.setIfInBounds_toArray, List.set_cons_zero, List.set_cons_succ]
            refine wpAnyH_take (i := 1) (v := ?v9x1) rfl (by kernel_rfl) (by kernel_rfl) (by kernel_rfl) (fun _ _ _ h => h) (Or.inl ⟨by rfl, ?hy9x1⟩) (by assumption) ?rest9x1
            case hy9x1 => (go_light; intro W hSw; obtain ⟨hS0, hS1, hS2, hS3, hS4, hS5⟩ := hSw; first | (go_simp; done) | (go_simp; with_reducible rfl))
            try simp only [List.getElem_toArray, List.getElem_cons_succ, List.getElem_cons_zero, Act.put, List.setIfInBounds_toArray, List.set_cons_zero, List.set_cons_succ]
            refine wpAnyH_take (i := 2) (v := ?v9x2) rfl (by kernel_rfl) (by kernel_rfl) (by kernel_rfl) (fun _ _ _ h => h) (Or.inl ⟨by rfl, ?hy9x2⟩) (by assumption) ?rest9x2
            case hy9x2 => (go_light; intro W hSw; obtain ⟨hS0, hS1, hS2, hS3, hS4, hS5⟩ := hSw; first | (go_simp; done) | (go_simp; with_reducible rfl))
            try simp only [List.getElem_toArray, List.getElem_cons_succ, List.getElem_cons_zero, Act.put, List.setIfInBounds_toArray, List.set_cons_zero, List.set_cons_succ]
            refine wpAnyH_take (i := 3) (v := ?v9x3) rfl (by kernel_rfl) (by kernel_rfl) (by kernel_rfl) (fun _ _ _ h => h) (Or.inl ⟨by rfl, ?hy9x3⟩) (by assumption) ?rest9x3
            case hy9x3 => (go_light; intro W hSw; obtain ⟨hS0, hS1, hS2, hS3, hS4, hS5⟩ := hSw; first | (go_simp; done) | (go_simp; with_reducible rfl))
            try simp only [List.getElem_toArray, List.getElem_cons_succ, List.getElem_cons_zero, Act.put, List.setIfInBounds_toArray, List.set_cons_zero, List.set_cons_succ]
            refine wpAnyH_take (i := 4) (v := ?v9x4) rfl (by kernel_rfl) (by kernel_rfl) (by kernel_rfl) (fun _ _ _ h => h) (Or.inl ⟨by rfl, ?hy9x4⟩) (by assumption) ?rest9x4
            case hy9x4 => (go_light; intro W hSw; obtain ⟨hS0, hS1, hS2, hS3, hS4, hS5⟩ := hSw; first | (go_simp; done) | (go_simp; with_reducible rfl))
            try simp only [List.getElem_toArray, List.getElem_cons_succ, List.getElem_cons_zero, Act.put, List.setIfInBounds_toArray, List.set_cons_zero, List.set_cons_succ]
            refine wpAnyH_take (i := 5) (v := ?v9x5) rfl (by kernel_rfl) (by kernel_rfl) (by kernel_rfl) (fun _ _ _ h => h) (Or.inl ⟨by rfl, ?hy9x5⟩) (by assumption) ?rest9x5
            case hy9x5 => (go_light; intro W hSw; obtain ⟨hS0, hS1, hS2, hS3, hS4, hS5⟩ := hSw; first | (go_simp; done) | (go_simp; with_reducible rfl))
            try simp only [List.getElem_toArray, List.getElem_cons_succ, List.getElem_cons_zero, Act.put, List.setIfInBounds_toArray, List.set_cons_zero, List.set_cons_succ]
            refine wpAnyH_take (i := 6) (v := ?v9x6) rfl (by kernel_rfl) (by kernel_rfl) (by kernel_rfl) (fun _ _ _ h => h) (Or.inl ⟨by rfl, ?hy9x6⟩) (by assumption) ?rest9x6
            case hy9x6 => (go_light; intro W hSw; obtain ⟨hS0, hS1, hS2, hS3, hS4, hS5⟩ := hSw; first | (go_simp; done) | (go_simp; with_reducible rfl))
            try simp only [List.getElem_toArray, List.getElem_cons_succ, List.getElem_cons_zero, Act.put, List.setIfInBounds_toArray, List.set_cons_zero, List.set_cons_succ]
            refine wpAnyH_take (i := 7) (v := ?v9x7) rfl (by kernel_rfl) (by kernel_rfl) (by kernel_rfl) (fun _ _ _ h => h) (Or.inl ⟨by rfl, ?hy9x7⟩) (by assumption) ?rest9x7
            case hy9x7 => (go_light; intro W hSw; obtain ⟨hS0, hS1, hS2, hS3, hS4, hS5⟩ := hSw; first | (go_simp; done) | (go_simp; with_reducible rfl))
            try simp only [List.getElem_toArray, List.getElem_cons_succ, List.getElem_cons_zero, Act.put, List.setIfInBounds_toArray, List.set_cons_zero, List.set_cons_succ]
            refine wpAnyH_take (i := 8) (v := ?v9x8) rfl (by kernel_rfl) (by kernel_rfl) (by kernel_rfl) (fun _ _ _ h => h) (Or.inl ⟨by rfl, ?hy9x8⟩) (by assumption) ?rest9x8
            case hy9x8 => (go_light; intro W hSw; obtain ⟨hS0, hS1, hS2, hS3, hS4, hS5⟩ := hSw; first | (go_simp; done) | (go_simp; with_reducible rfl))
            try simp only [List.getElem_toArray, List.getElem_cons_succ, List.getElem_cons_zero, Act.put, List.setIfInBounds_toArray, List.set_cons_zero, List.set_cons_succ]
            refine wpAnyH_ready (rs := [9]) (by kernel_rfl) (by simp) ?_
            refine AllReadyH.cons rfl (fun K hK => ?_) AllReadyH.nil
            rw [if_pos (by kernel_rfl)]
            refine wp_build_of 47 _ rfl [(0, .string t2), (1, .agg #[.int .i64 z0, .int .i64 z1, .string z2, .slice zA zp zc, .slice zK zq zd])] _ (by kernel_rfl) (built_memb t2 z2 z0 z1 zA zK zp zc zq zd) ?_
            refine hK.out _ _ (HKA9.out _ (grownBy_drew (grownBy_refl w8 none))) (fun hHa => ?_)
            clear hK K
            try simp only [List.getElem_toArray, List.getElem_cons_succ, List.getElem_cons_zero, Act.put, List.setIfInBounds_toArray, List.set_cons_zero, List.set_cons_succ]
            refine wpAnyH_ready (rs := [10]) (by kernel_rfl) (by simp) ?_
            refine AllReadyH.cons rfl (fun K hK => ?_) AllReadyH.nil
            rw [if_pos (by kernel_rfl)]
            refine wp_slice_memb _ rfl t2 z2 z0 z1 zA zK zp zc zq zd (by kernel_rfl) ?_
            refine hK.out _ _ (HKA9.out _ HXC9.out) (fun hHb => ?_)
            clear hK K
            try simp only [List.getElem_toArray, List.getElem_cons_succ, List.getElem_cons_zero, Act.put, List.setIfInBounds_toArray, List.set_cons_zero, List.set_cons_succ]
            refine wpAnyH_ready (rs := [11]) (by kernel_rfl) (by simp) ?_
            refine AllReadyH.cons rfl (fun K hK => ?_) AllReadyH.nil
            refine step_append_lies _ (by rfl) _ _ _ (by rfl) w.heap.size 47 iM (.agg #[.string ⟨#[]⟩, .int .i64 0, .int .i64 0, .string ⟨#[]⟩, .slice none 0 0, .slice none 0 0]) 6 96 Tryz.underlying45 hM hM0 hM1 hM2 rfl (by omega) vm x (flatM zm) (by rfl) (HOWN9.out _ HXC9.out) ⟨w8.heap.size, 0, none⟩ 1 1 [.string t2, .int .i64 z0, .int .i64 z1, .string z2, .slice zA zp zc, .slice zK zq zd] (by rfl) (by rfl) (World.news_of_block (cs := #[.string t2, .int .i64 z0, .int .i64 z1, .string z2, .slice zA zp zc, .slice zK zq zd]) (t := 47) (fr := (0, 0)) HNX9.out) (by simp [Value.oneCell']) (by omega) (by unfold maxLen; omega) (by omega) (by simp; omega) (w8.heap.size + 1) (by simp) ?_
            intro g9 cap9 w9 hown9 hgrow9 hat9 hlt9
            refine hK.out _ _ (HKEEP9.out _ _ HXC9.out hgrow9) (fun hHc => ?_)
            clear hK K
            try simp only [List.getElem_toArray, List.getElem_cons_succ, List.getElem_cons_zero, Act.put, List.setIfInBounds_toArray, List.set_cons_zero, List.set_cons_succ]
            refine wpAnyH_take (i := 12) (v := ?v9x12) rfl (by kernel_rfl) (by kernel_rfl) (by kernel_rfl) (fun _ _ _ h => h) (Or.inl ⟨by rfl, ?hy9x12⟩) (by assumption) ?rest9x12
            case hy9x12 => (go_light; intro W hSw; obtain ⟨hS0, hS1, hS2, hS3, hS4, hS5⟩ := hSw; first | (go_simp; done) | (go_simp; with_reducible rfl))
            try simp only [List.getElem_toArray, List.getElem_cons_succ, List.getElem_cons_zero, Act.put, List.setIfInBounds_toArray, List.set_cons_zero, List.set_cons_succ]
            refine wpAnyH_done (by kernel_rfl) ?_ _

            have HO3 : Hid (OrdM w w9 (ms.take x ++ [(t1, y)]) (rotL ms tn x ++ [(t2, z)]) (.slice (some ⟨g8, 0, none⟩) (x + 1) cap8) (.slice (some ⟨g9, 0, none⟩) (x + 1) cap9) (zl ++ [⟨t1, .int .i64 y0, .int .i64 y1, .string y2, .slice yA yp yc, .slice yK yq yd⟩]) (zm ++ [⟨t2, .int .i64 z0, .int .i64 z1, .string z2, .slice zA zp zc, .slice zK zq zd⟩])) := Lib.hid
              (HO2.out.swap.addl HXC9.out (by have := H2.out.1; omega) (RepS.keeps (Keeps.below HB8.out (fun b h _ => h)) (fun b h _ => h) _ _ (RepS.keeps (Keeps.refl _ w) (fun b _ hb => hb) _ _ (RepS.ofJ _ _ H2.out.2.2.2.2.1))) hgrow9 (by rw [rotL_len]) hown9 (hat9.imp_right (fun h => by rw [h]; simp))).swap
            clear hown9 hgrow9 hat9 hlt9
            have hnx := HT.out.next (t1 := t1) (t2 := t2) (x1 := y) (x2 := z) (by rw [HML.out]; exact hlt) HE1.out (by rw [HML.out, ← HQ.out]; exact HE2.out) HPR.out.1 HPR.out.2 HAL.out HU.out HV.out
            have HTK := Lib.hid hnx.1
            have HTN := Lib.hid hnx.2
            clear hnx
            have hT1 : (quoteL (strL t1)).length = T1.size := by rw [← HS.out.1, length_strL]
            have hT3 : (textL y).length = T3.size := by rw [← HS.out.2.2.1, length_strL]
            rw [hT1, hT3] at HTN
            go_wp2_with fail
            go_roundw
            case rel => exact ⟨x + 1, SA, SB, _, _, _, rfl, rfl, rfl, by go_num, by omega, by rw [HTK.out, rotL_snoc, HML.out, ← HQ.out, HE2.out]; exact HO3.out, HTN.out⟩
            case measure => simp [intOf]; omega
    · as_aux_lemma =>
      obtain rfl : i = N := by omega
      have hml := HML.out
      have htake : ms.take i = ms := List.take_of_length_le (by omega)
      have hper : (rotL ms tn i).Perm ms := by rw [← hml]; exact rotL_perm ms tn
      obtain ⟨mm, hmm⟩ : ∃ mm, mm = rotL ms tn i := ⟨_, rfl⟩
      obtain ⟨T1, T2, T3, T4, T5, T6⟩ := HT.out
      rw [htake] at HO T1 T3 T4 T5
      rw [← hmm] at HO T2 T6 hper
      have hne : ¬ (i : Int) < (i : Int) := by omega
      clear hmm htake HT HAL HMEM
      by_cases h3 : k ≤ 3000
      case neg =>
        have h4 : (3000 : Int) < k := by omega
        have HBO := Lib.hid HO.out.bel
        go_wp2_with fail
        go_ret
        exact ⟨by first | rfl | simp [h4], HBO.out⟩
      case pos =>
      have h4 : ¬ (3000 : Int) < k := by omega
      have hnl : nL ms ≤ 3000 := by omega
      have hok : ∀ ms' : List (ByteArray × J), ms'.Perm ms → MsOk ms' := fun ms' hp => ⟨by rw [hp.length_eq]; omega, (hp.map Prod.fst).nodup_iff.2 T4, fun m hm => by
        obtain ⟨h1, h2, _⟩ := (right_iff _).1 (T5 m (hp.mem_iff.1 hm)).2.1
        exact sm_of_rt h1 h2⟩
      have HOL : Hid (∀ W, Below wr.heap.size wr W → Calls Tryz.prog 29 #[vl] W (fun e w' => ∃ v', e = .returned v' ∧ RepS w' (fun b => W.heap.size ≤ b) (.mk 5 0 ⟨#[]⟩ (putsL ms).2 (putsL ms).1) v' ∧ Below W.heap.size W w')) := Lib.hid (fun W h => by
        have hO := HO.out.moved (grownBy_of_below h none)
        exact obj_all ms (hok ms (.refl _)) W vl zl _ (fun b hb => Nat.lt_of_lt_of_le hb hO.bel.size) hO.fl (own_row hO.ol hO.fl.length))
      have HOM : Hid (∀ W, Below wr.heap.size wr W → Calls Tryz.prog 29 #[vm] W (fun e w' => ∃ v', e = .returned v' ∧ RepS w' (fun b => W.heap.size ≤ b) (.mk 5 0 ⟨#[]⟩ (putsL ms).2 (putsL ms).1) v' ∧ Below W.heap.size W w')) := Lib.hid (fun W h => by
        have hO := HO.out.moved (grownBy_of_below h none)
        have := obj_all mm (hok mm hper) W vm zm _ (fun b hb => Nat.lt_of_lt_of_le hb hO.bel.size) hO.fm (own_row hO.om hO.fm.length)
        rwa [puts_perm hper T4] at this)
      have HTWO := order_two ms mm hper T5 T4 _ _ T1 T2 hnl
      rw [T1, T2] at HTWO
      have hsa : sa.size ≤ 3000 := by rw [← length_strL, T1]; exact Nat.le_trans (jo_nL _ _ (by decide) (by decide) ms true) hnl
      have hsb : sb.size ≤ 3000 := by rw [← length_strL, T2]; have := jo_nL [32, 44] [32, 58, 32] (by decide) (by decide) mm true; rw [nL_perm hper] at this; omega
      have HTX : Hid (strL (⟨#[123]⟩ ++ sa ++ ⟨#[125]⟩) = 123 :: (joL [44] [58] true ms ++ [125]) ∧ strL (⟨#[123, 32]⟩ ++ sb ++ ⟨#[10, 125]⟩) = 123 :: 32 :: (joL [32, 44] [32, 58, 32] true mm ++ [10, 125])) := Lib.hid (by
        rw [strL_append, strL_append, strL_append, strL_append, T1, T2]; simp [strL])
      have HBW := Lib.hid HO.out.bel
      clear T1 T2 T3 T4 T5 T6 hok hper hnl HO hml
      go_wp2_with fail
      refine (HOL.out _ (Below.refl _ _)).mono ?_
      rintro e w2 ⟨v1, rfl, hr, hb⟩
      have HR1 := Lib.hid (RepS.toJ _ _ hr)
      have HW2 := Lib.hid hb
      clear hr hb
      go_wp2_with fail
      refine (HOM.out _ HW2.out).mono ?_
      rintro e w3 ⟨v2, rfl, hr, hb⟩
      have HSM := same_any _ _ _ _ w3 (RepJ.below hb _ _ HR1.out) (RepS.toJ _ _ hr)
      rw [sameJ_refl] at HSM
      have HW3 := Lib.hid (HW2.out.trans (hb.mono HW2.out.size))
      clear hr hb HR1 HOM
      go_wp2_with fail
      refine HSM.mono ?_
      rintro e w4 ⟨rfl, hb⟩
      have HW4 := Lib.hid (HW3.out.trans (hb.mono HW3.out.size))
      have HB4 := Lib.hid (HBW.out.trans (HW4.out.mono HBW.out.size))
      clear hb HSM HW2 HW3
      have e1 : (⟨#[123]⟩ : ByteArray).size + sa.size ≤ 9223372036854775807 := by show 1 + sa.size ≤ _; omega
      have e2 : ((⟨#[123]⟩ : ByteArray) ++ sa).size + (⟨#[125]⟩ : ByteArray).size ≤ 9223372036854775807 := by rw [ByteArray.size_append]; show 1 + sa.size + 1 ≤ _; omega
      have e3 : (⟨#[123, 32]⟩ : ByteArray).size + sb.size ≤ 9223372036854775807 := by show 2 + sb.size ≤ _; omega
      have e4 : ((⟨#[123, 32]⟩ : ByteArray) ++ sb).size + (⟨#[10, 125]⟩ : ByteArray).size ≤ 9223372036854775807 := by rw [ByteArray.size_append]; show 2 + sb.size + 2 ≤ _; omega
      have hcva := fun (W : World) => Lib.run_convert_string_bytes (P := Tryz.prog) W 9 31 5 (⟨#[123]⟩ ++ sa ++ ⟨#[125]⟩) Tryz.underlying9 Tryz.underlying31 Tryz.underlying5
      have hcvb := fun (W : World) => Lib.run_convert_string_bytes (P := Tryz.prog) W 9 31 5 (⟨#[123, 32]⟩ ++ sb ++ ⟨#[10, 125]⟩) Tryz.underlying9 Tryz.underlying31 Tryz.underlying5
      rcases HTWO with ⟨j, hj, p1, p2⟩ | ⟨p1, q1, p2, q2⟩
      · rw [← hj] at HOL
        clear hj
        have hj : j = j := rfl
        have HPA := Lib.hid (fun (W : World) (n c : Nat) (hn : (⟨#[123]⟩ ++ sa ++ ⟨#[125]⟩ : ByteArray).size = n) (h : Ask5 W) => parse_strM (⟨#[123]⟩ ++ sa ++ ⟨#[125]⟩) n c W hn h (by rw [ByteArray.size_append, ByteArray.size_append]; show 1 + sa.size + 1 ≤ _; omega))
        have HPB := Lib.hid (fun (W : World) (n c : Nat) (hn : (⟨#[123, 32]⟩ ++ sb ++ ⟨#[10, 125]⟩ : ByteArray).size = n) (h : Ask5 W) => parse_strM (⟨#[123, 32]⟩ ++ sb ++ ⟨#[10, 125]⟩) n c W hn h (by rw [ByteArray.size_append, ByteArray.size_append]; show 2 + sb.size + 2 ≤ _; omega))
        rw [HTX.out.1] at HPA
        rw [HTX.out.2] at HPB
        rw [p1] at HPA
        rw [p2] at HPB
        go_wp2_with fail
        (with_reducible refine (HPA.out _ _ _ ?hnk (HA.out.below HB4.out)).mono ?_)
        case hnk => first | rfl | (rw [ByteArray.size_append, ByteArray.size_append]; first | rfl | (simp; omega))
        rintro e w5 ⟨x0, x1, x2, xA, xp, xc, xK, xq, xd, ev, rfl, hrj, hev, hb⟩
        have HR1 := Lib.hid hrj
        have HB5 := Lib.hid (HB4.out.trans (hb.mono HB4.out.size))
        have HW5 := Lib.hid (HW4.out.trans (hb.mono HW4.out.size))
        obtain rfl := hev.nil rfl
        clear hrj hb hev hcva
        go_wp2_with (first | (refine wpList_alloc_blk rfl (some 23) rfl _ rfl _ zeroJs ?_; intro g23 wa23 hg23 hb23 hgr23; have HA23 := Lib.hid hgr23; have HG23 := Lib.hid hg23; clear hgr23 hg23; try go_frame) | (refine wpList_store_blk rfl none rfl _ (.tmp 23) _ rfl g23 0 [.int .i64 x0, .int .i64 x1, .string x2, .slice xA xp xc, .slice xK xq xd] rfl rfl _ _ hb23 (by simp [zeros5]) sizeJson (by intro v hv; simp at hv; rcases hv with rfl | rfl | rfl | rfl | rfl <;> rfl) ?_; intro ws23 hc23 hgs23; rw [splice_all _ _ (by simp [zeros5])] at hc23; have HS23 := Lib.hid (mid_below HB5.out HA23.out HG23.out hgs23); have HM23 := Lib.hid (mid_below (Below.refl _ _) HA23.out HG23.out hgs23); have HK23 := Lib.hid hc23; clear hgs23 hc23; try go_frame))
        have HW23 := Lib.hid (HW5.out.trans (HM23.out.mono HW5.out.size))
        (with_reducible refine (HPB.out _ _ _ ?hnl (HA.out.below HS23.out)).mono ?_)
        case hnl => first | rfl | (rw [ByteArray.size_append, ByteArray.size_append]; first | rfl | (simp; omega))
        rintro e w6 ⟨y0, y1, y2, yA, yp, yc, yK, yq, yd, ev, rfl, hrj, hev, hb⟩
        have HR2 := Lib.hid hrj
        have HB6 := Lib.hid (HS23.out.trans (hb.mono HS23.out.size))
        have HW6 := Lib.hid (HW23.out.trans (hb.mono HW23.out.size))
        have HM6 := Lib.hid (HM23.out.trans (hb.mono HM23.out.size))
        have HK6 := Lib.hid (HK23.out.below hb HK23.out.lt)
        obtain rfl := hev.nil rfl
        clear hrj hb hev hcvb
        go_wp2_with (first | (refine wpList_alloc_blk rfl (some 25) rfl _ rfl _ zeroJs ?_; intro g25 wa25 hg25 hb25 hgr25; have HA25 := Lib.hid hgr25; have HG25 := Lib.hid hg25; clear hgr25 hg25; try go_frame) | (refine wpList_store_blk rfl none rfl _ (.tmp 25) _ rfl g25 0 [.int .i64 y0, .int .i64 y1, .string y2, .slice yA yp yc, .slice yK yq yd] rfl rfl _ _ hb25 (by simp [zeros5]) sizeJson (by intro v hv; simp at hv; rcases hv with rfl | rfl | rfl | rfl | rfl <;> rfl) ?_; intro ws25 hc25 hgs25; rw [splice_all _ _ (by simp [zeros5])] at hc25; have HS25 := Lib.hid (mid_below HB6.out HA25.out HG25.out hgs25); have HM25 := Lib.hid (mid_below (Below.refl _ _) HA25.out HG25.out hgs25); obtain ⟨x250, x251, x252, x253, x254⟩ : ws25.cell? ⟨g25, 0, none⟩ = some (.int .i64 y0) ∧ ws25.cell? ⟨g25, 1, none⟩ = some (.int .i64 y1) ∧ ws25.cell? ⟨g25, 2, none⟩ = some (.string y2) ∧ ws25.cell? ⟨g25, 3, none⟩ = some (.slice yA yp yc) ∧ ws25.cell? ⟨g25, 4, none⟩ = some (.slice yK yq yd) := ⟨hc25.cell 0, hc25.cell 1, hc25.cell 2, hc25.cell 3, hc25.cell 4⟩; have HK25 := Lib.hid hc25; clear hgs25 hc25; try go_frame))
        have HW7 := Lib.hid (HW6.out.trans (HM25.out.mono HW6.out.size))
        have HKX := Lib.hid (HK6.out.below HM25.out HK6.out.lt)
        have hq23 := HKX.out; obtain ⟨y230, y231, y232, y233, y234⟩ : ws25.cell? ⟨g23, 0, none⟩ = some (.int .i64 x0) ∧ ws25.cell? ⟨g23, 1, none⟩ = some (.int .i64 x1) ∧ ws25.cell? ⟨g23, 2, none⟩ = some (.string x2) ∧ ws25.cell? ⟨g23, 3, none⟩ = some (.slice xA xp xc) ∧ ws25.cell? ⟨g23, 4, none⟩ = some (.slice xK xq xd) := ⟨hq23.cell 0, hq23.cell 1, hq23.cell 2, hq23.cell 3, hq23.cell 4⟩; clear hq23
        have HS1 : Hid (∀ W, Below ws25.heap.size ws25 W → Calls Tryz.prog 26 #[.agg #[.int .i64 x0, .int .i64 x1, .string x2, .slice xA xp xc, .slice xK xq xd], .agg #[.int .i64 y0, .int .i64 y1, .string y2, .slice yA yp yc, .slice yK yq yd]] W fun e w' => e = .returned (.bool true) ∧ Below W.heap.size W w') := Lib.hid (fun W h => by
          have := same_any j j _ _ W (RepJ.below (((HM6.out.trans (HM25.out.mono HM6.out.size))).trans (h.mono (HM6.out.trans (HM25.out.mono HM6.out.size)).size)) _ _ HR1.out) (RepJ.below (HM25.out.trans (h.mono HM25.out.size)) _ _ HR2.out)
          rwa [sameJ_refl] at this)
        have HS3 : Hid (∀ W v, Below ws25.heap.size ws25 W → RepJ W j v → Calls Tryz.prog 26 #[.agg #[.int .i64 x0, .int .i64 x1, .string x2, .slice xA xp xc, .slice xK xq xd], v] W fun e w' => e = .returned (.bool true) ∧ Below W.heap.size W w') := Lib.hid (fun W v h hv => by
          have := same_any j j _ v W (RepJ.below (((HM6.out.trans (HM25.out.mono HM6.out.size))).trans (h.mono (HM6.out.trans (HM25.out.mono HM6.out.size)).size)) _ _ HR1.out) hv
          rwa [sameJ_refl] at this)
        have HOB3 : Hid (∀ W, Below ws25.heap.size ws25 W → Calls Tryz.prog 29 #[vl] W (fun e w' => ∃ v', e = .returned v' ∧ RepJ w' j v' ∧ Below W.heap.size W w')) := Lib.hid (fun W h => by
          refine (HOL.out W (HW7.out.trans (h.mono HW7.out.size))).mono ?_
          rintro e w' ⟨v', rfl, hr, hb⟩
          exact ⟨v', rfl, RepS.toJ _ _ hr, hb⟩)
        have hdr : Below ws25.heap.size ws25 ws25.drew := (Below.refl _ _).drew
        go_wp2_with fail
        go_region_held3 (fun w' => w'.cell? ⟨g23, 0, none⟩ = some (.int .i64 x0) ∧ w'.cell? ⟨g23, 1, none⟩ = some (.int .i64 x1) ∧ w'.cell? ⟨g23, 2, none⟩ = some (.string x2) ∧ w'.cell? ⟨g23, 3, none⟩ = some (.slice xA xp xc) ∧ w'.cell? ⟨g23, 4, none⟩ = some (.slice xK xq xd) ∧ w'.cell? ⟨g25, 0, none⟩ = some (.int .i64 y0) ∧ w'.cell? ⟨g25, 1, none⟩ = some (.int .i64 y1) ∧ w'.cell? ⟨g25, 2, none⟩ = some (.string y2) ∧ w'.cell? ⟨g25, 3, none⟩ = some (.slice yA yp yc) ∧ w'.cell? ⟨g25, 4, none⟩ = some (.slice yK yq yd))
          (first | go_keep | exact ⟨((hb1.cell (lt_of_cell y230)).trans y230), ((hb1.cell (lt_of_cell y231)).trans y231), ((hb1.cell (lt_of_cell y232)).trans y232), ((hb1.cell (lt_of_cell y233)).trans y233), ((hb1.cell (lt_of_cell y234)).trans y234), ((hb1.cell (lt_of_cell x250)).trans x250), ((hb1.cell (lt_of_cell x251)).trans x251), ((hb1.cell (lt_of_cell x252)).trans x252), ((hb1.cell (lt_of_cell x253)).trans x253), ((hb1.cell (lt_of_cell x254)).trans x254)⟩ | exact ⟨((hb2.cell (lt_of_cell ((hb1.cell (lt_of_cell y230)).trans y230))).trans ((hb1.cell (lt_of_cell y230)).trans y230)), ((hb2.cell (lt_of_cell ((hb1.cell (lt_of_cell y231)).trans y231))).trans ((hb1.cell (lt_of_cell y231)).trans y231)), ((hb2.cell (lt_of_cell ((hb1.cell (lt_of_cell y232)).trans y232))).trans ((hb1.cell (lt_of_cell y232)).trans y232)), ((hb2.cell (lt_of_cell ((hb1.cell (lt_of_cell y233)).trans y233))).trans ((hb1.cell (lt_of_cell y233)).trans y233)), ((hb2.cell (lt_of_cell ((hb1.cell (lt_of_cell y234)).trans y234))).trans ((hb1.cell (lt_of_cell y234)).trans y234)), ((hb2.cell (lt_of_cell ((hb1.cell (lt_of_cell x250)).trans x250))).trans ((hb1.cell (lt_of_cell x250)).trans x250)), ((hb2.cell (lt_of_cell ((hb1.cell (lt_of_cell x251)).trans x251))).trans ((hb1.cell (lt_of_cell x251)).trans x251)), ((hb2.cell (lt_of_cell ((hb1.cell (lt_of_cell x252)).trans x252))).trans ((hb1.cell (lt_of_cell x252)).trans x252)), ((hb2.cell (lt_of_cell ((hb1.cell (lt_of_cell x253)).trans x253))).trans ((hb1.cell (lt_of_cell x253)).trans x253)), ((hb2.cell (lt_of_cell ((hb1.cell (lt_of_cell x254)).trans x254))).trans ((hb1.cell (lt_of_cell x254)).trans x254))⟩ | exact ⟨((hb3.cell (lt_of_cell ((hb2.cell (lt_of_cell ((hb1.cell (lt_of_cell y230)).trans y230))).trans ((hb1.cell (lt_of_cell y230)).trans y230)))).trans ((hb2.cell (lt_of_cell ((hb1.cell (lt_of_cell y230)).trans y230))).trans ((hb1.cell (lt_of_cell y230)).trans y230))), ((hb3.cell (lt_of_cell ((hb2.cell (lt_of_cell ((hb1.cell (lt_of_cell y231)).trans y231))).trans ((hb1.cell (lt_of_cell y231)).trans y231)))).trans ((hb2.cell (lt_of_cell ((hb1.cell (lt_of_cell y231)).trans y231))).trans ((hb1.cell (lt_of_cell y231)).trans y231))), ((hb3.cell (lt_of_cell ((hb2.cell (lt_of_cell ((hb1.cell (lt_of_cell y232)).trans y232))).trans ((hb1.cell (lt_of_cell y232)).trans y232)))).trans ((hb2.cell (lt_of_cell ((hb1.cell (lt_of_cell y232)).trans y232))).trans ((hb1.cell (lt_of_cell y232)).trans y232))), ((hb3.cell (lt_of_cell ((hb2.cell (lt_of_cell ((hb1.cell (lt_of_cell y233)).trans y233))).trans ((hb1.cell (lt_of_cell y233)).trans y233)))).trans ((hb2.cell (lt_of_cell ((hb1.cell (lt_of_cell y233)).trans y233))).trans ((hb1.cell (lt_of_cell y233)).trans y233))), ((hb3.cell (lt_of_cell ((hb2.cell (lt_of_cell ((hb1.cell (lt_of_cell y234)).trans y234))).trans ((hb1.cell (lt_of_cell y234)).trans y234)))).trans ((hb2.cell (lt_of_cell ((hb1.cell (lt_of_cell y234)).trans y234))).trans ((hb1.cell (lt_of_cell y234)).trans y234))), ((hb3.cell (lt_of_cell ((hb2.cell (lt_of_cell ((hb1.cell (lt_of_cell x250)).trans x250))).trans ((hb1.cell (lt_of_cell x250)).trans x250)))).trans ((hb2.cell (lt_of_cell ((hb1.cell (lt_of_cell x250)).trans x250))).trans ((hb1.cell (lt_of_cell x250)).trans x250))), ((hb3.cell (lt_of_cell ((hb2.cell (lt_of_cell ((hb1.cell (lt_of_cell x251)).trans x251))).trans ((hb1.cell (lt_of_cell x251)).trans x251)))).trans ((hb2.cell (lt_of_cell ((hb1.cell (lt_of_cell x251)).trans x251))).trans ((hb1.cell (lt_of_cell x251)).trans x251))), ((hb3.cell (lt_of_cell ((hb2.cell (lt_of_cell ((hb1.cell (lt_of_cell x252)).trans x252))).trans ((hb1.cell (lt_of_cell x252)).trans x252)))).trans ((hb2.cell (lt_of_cell ((hb1.cell (lt_of_cell x252)).trans x252))).trans ((hb1.cell (lt_of_cell x252)).trans x252))), ((hb3.cell (lt_of_cell ((hb2.cell (lt_of_cell ((hb1.cell (lt_of_cell x253)).trans x253))).trans ((hb1.cell (lt_of_cell x253)).trans x253)))).trans ((hb2.cell (lt_of_cell ((hb1.cell (lt_of_cell x253)).trans x253))).trans ((hb1.cell (lt_of_cell x253)).trans x253))), ((hb3.cell (lt_of_cell ((hb2.cell (lt_of_cell ((hb1.cell (lt_of_cell x254)).trans x254))).trans ((hb1.cell (lt_of_cell x254)).trans x254)))).trans ((hb2.cell (lt_of_cell ((hb1.cell (lt_of_cell x254)).trans x254))).trans ((hb1.cell (lt_of_cell x254)).trans x254)))⟩)
          (first | (go_at_call 26; (with_reducible refine (HS1.out _ hdr).mono ?_); rintro e w8 ⟨rfl, hb1⟩) | (go_at_call 29; (with_reducible refine (HOB3.out _ (hdr.trans (hb1.mono hdr.size))).mono ?_); rintro e w9 ⟨v3, rfl, hr3, hb2⟩) | (go_at_call 26; (with_reducible refine (HS3.out _ _ ((hdr.trans (hb1.mono hdr.size)).trans (hb2.mono (hdr.trans (hb1.mono hdr.size)).size)) hr3).mono ?_); rintro e w10 ⟨rfl, hb3⟩))
        all_goals
          go_wp2_with fail
          go_ret
          exact ⟨rfl, HS25.out.trans (((hdr.trans (hb1.mono hdr.size)).trans (hb2.mono (hdr.trans (hb1.mono hdr.size)).size)).trans (hb3.mono ((hdr.trans (hb1.mono hdr.size)).trans (hb2.mono (hdr.trans (hb1.mono hdr.size)).size)).size) |>.mono HS25.out.size)⟩

      · have HPA := Lib.hid (fun (W : World) (n c : Nat) (hn : (⟨#[123]⟩ ++ sa ++ ⟨#[125]⟩ : ByteArray).size = n) (h : Ask5 W) => parse_strM (⟨#[123]⟩ ++ sa ++ ⟨#[125]⟩) n c W hn h (by rw [ByteArray.size_append, ByteArray.size_append]; show 1 + sa.size + 1 ≤ _; omega))
        have HPB := Lib.hid (fun (W : World) (n c : Nat) (hn : (⟨#[123, 32]⟩ ++ sb ++ ⟨#[10, 125]⟩ : ByteArray).size = n) (h : Ask5 W) => parse_strM (⟨#[123, 32]⟩ ++ sb ++ ⟨#[10, 125]⟩) n c W hn h (by rw [ByteArray.size_append, ByteArray.size_append]; show 2 + sb.size + 2 ≤ _; omega))
        rw [HTX.out.1] at HPA
        rw [HTX.out.2] at HPB
        obtain ⟨r1, hr1⟩ : ∃ r, r = parsedL (123 :: (joL [44] [58] true ms ++ [125])) := ⟨_, rfl⟩
        obtain ⟨r2, hr2⟩ : ∃ r, r = parsedL (123 :: 32 :: (joL [32, 44] [32, 58, 32] true mm ++ [10, 125])) := ⟨_, rfl⟩
        rw [← hr1] at HPA p1 q1
        rw [← hr2] at HPB p2 q2
        clear hr1 hr2
        obtain ⟨jx, nx, px⟩ := r1
        obtain ⟨jy, ny, py⟩ := r2
        replace p1 : nx ≠ 0 := p1
        replace p2 : ny ≠ 0 := p2
        obtain rfl : jx = zeroJ := q1
        obtain rfl : jy = zeroJ := q2
        have HNX := Lib.hid (And.intro p1 p2)
        clear p1 p2
        go_wp2_with fail
        (with_reducible refine (HPA.out _ _ _ ?hnk (HA.out.below HB4.out)).mono ?_)
        case hnk => first | rfl | (rw [ByteArray.size_append, ByteArray.size_append]; first | rfl | (simp; omega))
        rintro e w5 ⟨x0, x1, x2, xA, xp, xc, xK, xq, xd, ev, rfl, hrj, hev, hb⟩
        have HR1 := Lib.hid hrj
        have HB5 := Lib.hid (HB4.out.trans (hb.mono HB4.out.size))
        have HW5 := Lib.hid (HW4.out.trans (hb.mono HW4.out.size))
        obtain ⟨dd1, xx1, rfl⟩ := hev.iface HNX.out.1
        clear hrj hb hev hcva
        go_wp2_with (first | (refine wpList_alloc_blk rfl (some 23) rfl _ rfl _ zeroJs ?_; intro g23 wa23 hg23 hb23 hgr23; have HA23 := Lib.hid hgr23; have HG23 := Lib.hid hg23; clear hgr23 hg23; try go_frame) | (refine wpList_store_blk rfl none rfl _ (.tmp 23) _ rfl g23 0 [.int .i64 x0, .int .i64 x1, .string x2, .slice xA xp xc, .slice xK xq xd] rfl rfl _ _ hb23 (by simp [zeros5]) sizeJson (by intro v hv; simp at hv; rcases hv with rfl | rfl | rfl | rfl | rfl <;> rfl) ?_; intro ws23 hc23 hgs23; rw [splice_all _ _ (by simp [zeros5])] at hc23; have HS23 := Lib.hid (mid_below HB5.out HA23.out HG23.out hgs23); have HM23 := Lib.hid (mid_below (Below.refl _ _) HA23.out HG23.out hgs23); have HK23 := Lib.hid hc23; clear hgs23 hc23; try go_frame))
        have HW23 := Lib.hid (HW5.out.trans (HM23.out.mono HW5.out.size))
        (with_reducible refine (HPB.out _ _ _ ?hnl (HA.out.below HS23.out)).mono ?_)
        case hnl => first | rfl | (rw [ByteArray.size_append, ByteArray.size_append]; first | rfl | (simp; omega))
        rintro e w6 ⟨y0, y1, y2, yA, yp, yc, yK, yq, yd, ev, rfl, hrj, hev, hb⟩
        have HR2 := Lib.hid hrj
        have HB6 := Lib.hid (HS23.out.trans (hb.mono HS23.out.size))
        have HW6 := Lib.hid (HW23.out.trans (hb.mono HW23.out.size))
        have HM6 := Lib.hid (HM23.out.trans (hb.mono HM23.out.size))
        have HK6 := Lib.hid (HK23.out.below hb HK23.out.lt)
        obtain ⟨dd2, xx2, rfl⟩ := hev.iface HNX.out.2
        clear hrj hb hev hcvb
        go_wp2_with (first | (refine wpList_alloc_blk rfl (some 25) rfl _ rfl _ zeroJs ?_; intro g25 wa25 hg25 hb25 hgr25; have HA25 := Lib.hid hgr25; have HG25 := Lib.hid hg25; clear hgr25 hg25; try go_frame) | (refine wpList_store_blk rfl none rfl _ (.tmp 25) _ rfl g25 0 [.int .i64 y0, .int .i64 y1, .string y2, .slice yA yp yc, .slice yK yq yd] rfl rfl _ _ hb25 (by simp [zeros5]) sizeJson (by intro v hv; simp at hv; rcases hv with rfl | rfl | rfl | rfl | rfl <;> rfl) ?_; intro ws25 hc25 hgs25; rw [splice_all _ _ (by simp [zeros5])] at hc25; have HS25 := Lib.hid (mid_below HB6.out HA25.out HG25.out hgs25); have HM25 := Lib.hid (mid_below (Below.refl _ _) HA25.out HG25.out hgs25); obtain ⟨x250, x251, x252, x253, x254⟩ : ws25.cell? ⟨g25, 0, none⟩ = some (.int .i64 y0) ∧ ws25.cell? ⟨g25, 1, none⟩ = some (.int .i64 y1) ∧ ws25.cell? ⟨g25, 2, none⟩ = some (.string y2) ∧ ws25.cell? ⟨g25, 3, none⟩ = some (.slice yA yp yc) ∧ ws25.cell? ⟨g25, 4, none⟩ = some (.slice yK yq yd) := ⟨hc25.cell 0, hc25.cell 1, hc25.cell 2, hc25.cell 3, hc25.cell 4⟩; have HK25 := Lib.hid hc25; clear hgs25 hc25; try go_frame))
        have HW7 := Lib.hid (HW6.out.trans (HM25.out.mono HW6.out.size))
        have HKX := Lib.hid (HK6.out.below HM25.out HK6.out.lt)
        have hq23 := HKX.out; obtain ⟨y230, y231, y232, y233, y234⟩ : ws25.cell? ⟨g23, 0, none⟩ = some (.int .i64 x0) ∧ ws25.cell? ⟨g23, 1, none⟩ = some (.int .i64 x1) ∧ ws25.cell? ⟨g23, 2, none⟩ = some (.string x2) ∧ ws25.cell? ⟨g23, 3, none⟩ = some (.slice xA xp xc) ∧ ws25.cell? ⟨g23, 4, none⟩ = some (.slice xK xq xd) := ⟨hq23.cell 0, hq23.cell 1, hq23.cell 2, hq23.cell 3, hq23.cell 4⟩; clear hq23
        have HS1 : Hid (∀ W, Below ws25.heap.size ws25 W → Calls Tryz.prog 26 #[.agg #[.int .i64 x0, .int .i64 x1, .string x2, .slice xA xp xc, .slice xK xq xd], .agg #[.int .i64 y0, .int .i64 y1, .string y2, .slice yA yp yc, .slice yK yq yd]] W fun e w' => e = .returned (.bool true) ∧ Below W.heap.size W w') := Lib.hid (fun W h => by
          have := same_any zeroJ zeroJ _ _ W (RepJ.below (((HM6.out.trans (HM25.out.mono HM6.out.size))).trans (h.mono (HM6.out.trans (HM25.out.mono HM6.out.size)).size)) _ _ HR1.out) (RepJ.below (HM25.out.trans (h.mono HM25.out.size)) _ _ HR2.out)
          rwa [sameJ_refl] at this)
        have hdr : Below ws25.heap.size ws25 ws25.drew := (Below.refl _ _).drew
        go_wp2_with fail
        refine wp_region_held_drew (S := fun X => X.cell? ⟨g23, 0, none⟩ = some (.int .i64 x0) ∧ X.cell? ⟨g23, 1, none⟩ = some (.int .i64 x1) ∧ X.cell? ⟨g23, 2, none⟩ = some (.string x2) ∧ X.cell? ⟨g23, 3, none⟩ = some (.slice xA xp xc) ∧ X.cell? ⟨g23, 4, none⟩ = some (.slice xK xq xd) ∧ X.cell? ⟨g25, 0, none⟩ = some (.int .i64 y0) ∧ X.cell? ⟨g25, 1, none⟩ = some (.int .i64 y1) ∧ X.cell? ⟨g25, 2, none⟩ = some (.string y2) ∧ X.cell? ⟨g25, 3, none⟩ = some (.slice yA yp yc) ∧ X.cell? ⟨g25, 4, none⟩ = some (.slice yK yq yd)) (by kernel_rfl) ⟨y230, y231, y232, y233, y234, x250, x251, x252, x253, x254⟩ (fun hHeld => ?_)
        refine rgT 0 ?_
        try simp only [rgS]
        refine rgT 1 ?_
        try simp only [rgS]
        refine rgT 2 ?_
        try simp only [rgS]
        refine rgT 3 ?_
        try simp only [rgS]
        refine rgT 4 ?_
        try simp only [rgS]
        refine rgT 5 ?_
        try simp only [rgS]
        refine rgT 6 ?_
        try simp only [rgS]
        refine rgT 7 ?_
        try simp only [rgS]
        refine rgO 8 (fun K hK => ?_)
        go_simp
        go_at_call 26
        (with_reducible refine (HS1.out _ hdr).mono ?_)
        rintro e w8 ⟨rfl, hb1⟩
        refine hK.out _ _ ⟨((hb1.cell (lt_of_cell y230)).trans y230), ((hb1.cell (lt_of_cell y231)).trans y231), ((hb1.cell (lt_of_cell y232)).trans y232), ((hb1.cell (lt_of_cell y233)).trans y233), ((hb1.cell (lt_of_cell y234)).trans y234), ((hb1.cell (lt_of_cell x250)).trans x250), ((hb1.cell (lt_of_cell x251)).trans x251), ((hb1.cell (lt_of_cell x252)).trans x252), ((hb1.cell (lt_of_cell x253)).trans x253), ((hb1.cell (lt_of_cell x254)).trans x254)⟩ (fun hH8 => ?_)
        clear hK K hHeld
        try simp only [rgS]
        refine rgT 9 ?_
        try simp only [rgS]
        refine rgT 10 ?_
        try simp only [rgS]
        refine rgT 11 ?_
        try simp only [rgS]
        refine rgT 12 ?_
        try simp only [rgS]
        refine rgT 13 ?_
        try simp only [rgS]
        refine rgU 14 ?_
        try simp only [rgS]
        refine rgU 15 ?_
        try simp only [rgS]
        refine rgU 16 ?_
        try simp only [rgS]
        refine rgU 17 ?_
        try simp only [rgS]
        refine rgT 18 ?_
        try simp only [rgS]
        refine rgT 19 ?_
        try simp only [rgS]
        refine rgT 20 ?_
        try simp only [rgS]
        refine wpAnyH_done (by kernel_rfl) ?_ _
        go_wp2_with fail
        go_ret
        exact ⟨rfl, HS25.out.trans ((hdr.trans (hb1.mono hdr.size)).mono HS25.out.size)⟩
end Go.Proofs.YtlcljphbldjieaaGreatDoor
