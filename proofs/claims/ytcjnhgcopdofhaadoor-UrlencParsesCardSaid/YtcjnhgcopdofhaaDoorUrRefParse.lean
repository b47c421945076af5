/- The walk of the reference's Parse. -/
import Derived.Test.YtcjnhgcopdofhaaDoorUrRefPMath
import Derived.Test.YtcjnhgcopdofhaaDoorUrRefGet
import Derived.Test.YtcjnhgcopdofhaaDoorUrRef3
import Derived.Test.YtcjnhgcopdofhaaDoorUtfRefNext
import Derived.Deep.CutBlock
import Derived.Deep.CutRange
namespace Go.Proofs.YtcjnhgcopdofhaaDoor
open Go Go.RowKit

def RefParseTells (r : PList × Int × Int) (w : World) (e : Ending) (w' : World) : Prop :=
  ∃ A c, e = .returned (.tuple #[.slice A r.1.length c, .int .i64 r.2.1, .int .i64 r.2.2]) ∧ LiesP w' A r.1 ∧ Below w.heap.size w w'
theorem badR_neg {s : ByteArray} (h : isU s = true) : badR (strL s) = -1 := by
  unfold badR; rw [if_pos (of_decide_eq_true h)]
theorem badR_pos {s : ByteArray} (h : isU s = false) : 0 ≤ badR (strL s) := by
  unfold badR; rw [if_neg (of_decide_eq_false h)]; omega
set_option maxRecDepth 100000 in
set_option maxHeartbeats 1000000 in
theorem refParse_long (s : ByteArray) (w : World) (h : 4096 < s.size) :
    Calls Tryd.prog 9 #[.string s] w (RefParseTells (parsedP s) w) := by
  have HR : Hid (parsedP s = ([], 2, -1)) := Lib.hid (by rw [parsedP, if_pos h])
  have hf : (4096 : Int) < (s.size : Int) := by omega
  rw [HR.out]
  go_enter Tryd.func9, Tryd.ntmps9
  go_wp2
  go_ret3
  exact ⟨none, 0, rfl, LiesP.nil _ _, Below.refl _ _⟩
set_option maxRecDepth 100000 in
set_option maxHeartbeats 8000000 in
theorem refParse_short (s : ByteArray) (w : World) (h : ¬ 4096 < s.size) :
    Calls Tryd.prog 9 #[.string s] w (RefParseTells (parsedP s) w) := by
  have HR0 : Hid (parsedP s = goP (restL (strL s) 0) 0 []) := Lib.hid (by rw [parsedP, if_neg h, restL, if_pos (Nat.zero_le _)]; rfl)
  have hf : ¬ (4096 : Int) < (s.size : Int) := by omega
  have hs4 : s.size ≤ 4096 := by omega
  have HLEN := Lib.hid (length_strL s)
  obtain ⟨i0, hi0, hz0, hz1, hz2⟩ := info_parts infoPar
  clear h
  go_enter Tryd.func9, Tryd.ntmps9
  go_wp2
  go_loopw [5, 6] (fun lv kv wr => ∃ (k n : Nat) (acc : PList), k ≤ s.size + 1 ∧ kv = .int .i64 (k : Int) ∧ acc.length = n ∧ n ≤ 32 ∧ goP (restL (strL s) 0) 0 [] = goP (restL (strL s) k) k acc ∧ wr.ownsRow w.heap.size 45 2 lv n (flatP acc) ∧ Below w.heap.size w wr) (fun _ kv _ => s.size + 1 - (intOf kv).toNat)
  case atStart => exact ⟨0, 0, [], Nat.zero_le _, rfl, rfl, by omega, rfl, World.ownsRow_nil _ _ _ _, Below.refl _ _⟩
  case round =>
    obtain ⟨k, n, acc, hk, rfl, hn, hn32, hrun, hown, hbel⟩ := hrel
    obtain ⟨A, c, rfl, hnc, hlies⟩ := own_params hown hn
    have HRUN := Lib.hid hrun
    have HOW := Lib.hid hown
    have HBE := Lib.hid hbel
    have HLI := Lib.hid hlies
    have HN := Lib.hid hn
    have hsz : w.heap.size ≤ wr.heap.size := hbel.size
    clear hrun hown hbel hlies hn
    by_cases hlt : k ≤ s.size
    · have hk1 : (k : Int) ≤ (s.size : Int) := by omega
      obtain ⟨p, rest, hp1, hp2, hp3, hp4, hp5, hp6, hp7⟩ := part_places (strL s) k (by rw [HLEN.out]; exact hlt)
      have HST : Hid (goP (restL (strL s) 0) 0 [] = goP (p :: rest) k acc) := Lib.hid (by rw [HRUN.out, restL, if_pos (by rw [HLEN.out]; exact hlt), hp1])
      have HRE := Lib.hid (rest_step hp5)
      have HP3 := Lib.hid hp3
      have HP4 := Lib.hid hp4
      have HP6 := Lib.hid hp6
      have HP7 := Lib.hid hp7
      have hnl := nameL_len p
      have HPB : Hid (Bytes (nameL p) ∧ Bytes (valL p)) := Lib.hid (by
        have hb : Bytes p := .of_mem fun x hx => (strL_bd s).mem ((parts_mem _ p (by rw [hp1]; simp)).2 x hx |> List.mem_of_mem_drop)
        exact ⟨.of_mem fun x hx => hb.mem (nameL_mem hx), .of_mem fun x hx => hb.mem (valL_mem hx)⟩)
      rw [HLEN.out] at hp2
      obtain ⟨q, hq⟩ : ∃ q, q = k + p.length := ⟨_, rfl⟩
      have HQE : Hid (q = s.size ∨ q < s.size ∧ (strL s).getD q 0 = 38) := Lib.hid (by
        rw [hq]
        rcases hp5 with ⟨h5, _⟩ | ⟨h5, h6, _⟩
        · exact .inl (by rw [← HLEN.out]; exact h5)
        · exact .inr ⟨by rw [← HLEN.out]; exact h5, h6⟩)
      have HQ := Lib.hid hq
      have hq1 : k ≤ q := by omega
      have hq2 : q ≤ s.size := by omega
      clear hp1 hp3 hp4 hp5 hp6 hp7 HRUN hq
      go_upto_block 2 with fail
      go_cut [7] from 22 to 33 (fun v wx => v = .int .i64 (q : Int) ∧ wx = wr)
      case first =>
        go_wp2_with fail
        go_loop [7] (fun v => ∃ E : Nat, k ≤ E ∧ E ≤ q ∧ v = .int .i64 (E : Int)) (fun v => q - (intOf v).toNat)
        case atStart => exact ⟨k, Nat.le_refl _, hq1, rfl⟩
        case round =>
          obtain ⟨E, hE1, hE2, rfl⟩ := hrel
          by_cases hEq : E < q
          · have hEs : (E : Int) < (s.size : Int) := by omega
            have hx := HP3.out E hE1 (by have := HQ.out; omega)
            have hix := fun W : World => run_index_str s E (E : Int) rfl (by omega) .i64 W
            obtain ⟨x, hxx⟩ : ∃ x, x = (strL s).getD E 0 := ⟨_, rfl⟩
            rw [← hxx] at hx hix
            have q0 : (x != 38) = true := by rw [bne_iff_ne]; exact hx
            clear hx hxx
            go_wp2
            go_round
            case rel => exact ⟨E + 1, by omega, by omega, by go_num⟩
            case measure => simp [intOf]; omega
          · obtain rfl : E = q := by omega
            rcases HQE.out with h1 | ⟨h1, h2⟩
            · have hEs : ¬ (E : Int) < (s.size : Int) := by omega
              clear h1 hEq
              go_wp2
              go_meet
              exact ⟨rfl, rfl⟩
            · have hEs : (E : Int) < (s.size : Int) := by omega
              have hix := fun W : World => run_index_str s E (E : Int) rfl h1 .i64 W
              rw [h2] at hix
              clear h1 h2 hEq
              go_wp2
              go_meet
              exact ⟨rfl, rfl⟩
      case rest =>
        obtain ⟨rfl, hwc⟩ := hcut
        obtain rfl : wc = wr := hwc
        by_cases hpe : p = []
        · have hqk : q = k := by rw [HQ.out, hpe]; rfl
          subst hqk
          have HNX : Hid (goP (restL (strL s) 0) 0 [] = goP (restL (strL s) (q + 1)) (q + 1) acc) := Lib.hid (by
            have := HRE.out
            rw [hpe] at this
            rw [HST.out, hpe, goP, if_pos rfl, ← this]; rfl)
          have hqq : ¬ (q : Int) < (q : Int) := by omega
          clear hpe
          go_wp2
          go_roundw
          case rel => exact ⟨q + 1, n, acc, by omega, by go_num, HN.out, hn32, HNX.out, HOW.out, HBE.out⟩
          case measure => simp [intOf]; omega
        · have hpl : 0 < p.length := List.length_pos_iff.2 hpe
          have hkq : k < q := by rw [HQ.out]; omega
          have hkq1 : (k : Int) < (q : Int) := by omega
          have HST2 := Lib.hid (HST.out.trans (by rw [goP, if_neg hpe]))
          obtain ⟨r, hr⟩ : ∃ r, r = k + (nameL p).length := ⟨_, rfl⟩
          have hr1 : k ≤ r := by omega
          have hr2 : r ≤ q := by rw [hr, HQ.out]; omega
          have HRQ : Hid (r = q ∨ r < q ∧ (strL s).getD r 0 = 61) := Lib.hid (by
            rw [hr]
            rcases HP6.out with ⟨_, h2, _⟩ | ⟨h1, h2, _⟩
            · left; rw [h2, HQ.out]
            · right; exact ⟨by rw [HQ.out]; omega, h2⟩)
          have HR := Lib.hid hr
          have HN1 : Hid (strL (s.extract k r) = nameL p) := Lib.hid (by rw [strL_extract, hr]; exact HP7.out)
          clear hpe hpl hr
          go_upto_block 4 with fail
          go_cut [8] from 38 to 48 (fun v wx => v = .int .i64 (r : Int) ∧ wx = wc)
          case first =>
            go_wp2_with fail
            go_loop [8] (fun v => ∃ E : Nat, k ≤ E ∧ E ≤ r ∧ v = .int .i64 (E : Int)) (fun v => r - (intOf v).toNat)
            case atStart => exact ⟨k, Nat.le_refl _, hr1, rfl⟩
            case round =>
              obtain ⟨E, hE1, hE2, rfl⟩ := hrel
              by_cases hEq : E < r
              · have hEs : (E : Int) < (q : Int) := by omega
                have hx := HP4.out E hE1 (by have := HR.out; omega)
                have hix := fun W : World => run_index_str s E (E : Int) rfl (by omega) .i64 W
                obtain ⟨x, hxx⟩ : ∃ x, x = (strL s).getD E 0 := ⟨_, rfl⟩
                rw [← hxx] at hx hix
                have q0 : (x != 61) = true := by rw [bne_iff_ne]; exact hx
                clear hx hxx
                go_wp2
                go_round
                case rel => exact ⟨E + 1, by omega, by omega, by go_num⟩
                case measure => simp [intOf]; omega
              · obtain rfl : E = r := by omega
                rcases HRQ.out with h1 | ⟨h1, h2⟩
                · have hEs : ¬ (E : Int) < (q : Int) := by omega
                  clear h1 hEq
                  go_wp2
                  go_meet
                  exact ⟨rfl, rfl⟩
                · have hEs : (E : Int) < (q : Int) := by omega
                  have hix := fun W : World => run_index_str s E (E : Int) rfl (by omega) .i64 W
                  rw [h2] at hix
                  clear h1 h2 hEq
                  go_wp2
                  go_meet
                  exact ⟨rfl, rfl⟩
          case rest =>
            obtain ⟨rfl, hwc⟩ := hcut
            obtain rfl := hwc
            rename World => wv
            have hkr0 : (0 : Int) ≤ (k : Int) := by omega
            have hkr1 : (k : Int) ≤ (r : Int) := by omega
            have hrs : (r : Int) ≤ (s.size : Int) := by omega
            have HU1 := Lib.hid (fun W : World => refUnescape_any (s.extract k r) W (by rw [ByteArray.size_extract]; omega))
            rw [HN1.out] at HU1
            by_cases hla : looseL (nameL p) < (nameL p).length
            · have HLP : Hid (looseL p = looseL (nameL p) ∧ looseL p < p.length) := Lib.hid (by
                have hnl := nameL_len p
                rcases HP6.out with ⟨_, h2, _⟩ | ⟨h1, _, h3, h4, _⟩
                · rw [h2] at hla ⊢; exact ⟨rfl, hla⟩
                · have h5 := loose_name _ (nameL p) (valL p) (Nat.le_refl _) h3
                  rw [← h4, if_pos hla] at h5
                  exact ⟨h5, by omega⟩)
              have HFIN : Hid (goP (restL (strL s) 0) 0 [] = ([], 60, ((k + looseL (nameL p) : Nat) : Int))) := Lib.hid (by rw [HST2.out, if_pos HLP.out.2, HLP.out.1])
              rw [unescL, if_pos hla] at HU1
              obtain ⟨x, hx⟩ : ∃ x, x = looseL (nameL p) := ⟨_, rfl⟩
              have hx5 : x ≤ 5000 := by
                have := congrArg List.length HN1.out
                rw [length_strL, ByteArray.size_extract] at this
                omega
              rw [← hx] at HU1 HFIN
              have hx0 : (0 : Int) ≤ (x : Int) := by omega
              clear hla hx
              go_wp2_with (go_at_call 19; (with_reducible refine (HU1.out _).mono ?_); rintro e w2 ⟨rfl, hb⟩; have HB2 := Lib.hid (HBE.out.trans (hb.mono HBE.out.size)); clear hb)
              go_ret3
              rw [HR0.out, HFIN.out]
              exact ⟨none, 0, by go_num, LiesP.nil _ _, HB2.out⟩
            · have hle := looseL_le (nameL p)
              have hlaf : looseL (nameL p) = (nameL p).length := by omega
              rw [unescL, if_neg hla] at HU1
              have HNM : Hid ((toS (meanL (nameL p))).size ≤ 5000) := Lib.hid (by
                rw [size_toS]
                have h1 := (meanL_bytes _ (Nat.le_refl _) HPB.out.1 hlaf).2
                have h2 := congrArg List.length HN1.out
                rw [length_strL, ByteArray.size_extract] at h2
                omega)
              obtain ⟨nm, hnm⟩ : ∃ x, x = toS (meanL (nameL p)) := ⟨_, rfl⟩
              obtain ⟨vm, hvm⟩ : ∃ x, x = toS (meanL (valL p)) := ⟨_, rfl⟩
              rw [← hnm] at HU1 HNM
              have HV := Lib.hid hvm
              have HNE := Lib.hid hnm
              clear hvm hnm
              go_upto_if 64 with (go_at_call 19; (with_reducible refine (HU1.out _).mono ?_); rintro e w2 ⟨rfl, hb⟩; have HB2 := Lib.hid hb; clear hb)
              go_cut [10, 11] from 17 to 111 (fun v10 v11 wx => v10 = .int .i64 (-1) ∧ v11 = .string vm ∧ vm.size ≤ 5000 ∧ looseL p = p.length ∧ Below wv.heap.size wv wx)
              case first =>
                rcases HP6.out with ⟨_, h2, h3⟩ | ⟨h1, h2, h3, h4, h5⟩
                · have hrq : r = q := by rw [HR.out, HQ.out, h2]
                  have hrq1 : ¬ (r : Int) < (q : Int) := by omega
                  have hv0 : vm = ⟨#[]⟩ := by rw [HV.out, h3]; rfl
                  have HM := Lib.hid (show vm.size ≤ 5000 ∧ looseL p = p.length from ⟨by rw [hv0]; decide, by rw [h2] at hlaf; exact hlaf⟩)
                  have HVV := Lib.hid hv0
                  clear h2 h3 hrq hv0 hla hlaf hle
                  go_wp2
                  go_meet
                  exact ⟨rfl, by rw [HVV.out], HM.out.1, HM.out.2, HB2.out⟩
                · have hrq : r < q := by rw [HR.out, HQ.out]; omega
                  have hrq1 : (r : Int) < (q : Int) := by omega
                  have hq0 : (q : Int) ≤ (s.size : Int) := by omega
                  have hr11 : (r : Int) + 1 ≤ (q : Int) := by omega
                  have hr10 : (0 : Int) ≤ (r : Int) + 1 := by omega
                  have hrn : ((r : Int) + 1).toNat = r + 1 := by omega
                  have hex : strL (s.extract (r + 1) q) = valL p := by rw [strL_extract, HR.out, HQ.out, ← h5]; rfl
                  have hlp := loose_name _ (nameL p) (valL p) (Nat.le_refl _) h3
                  rw [← h4, if_neg hla] at hlp
                  have hlen : p.length = (nameL p).length + 1 + (valL p).length := by
                    have := congrArg List.length h4
                    simp only [List.length_append, List.length_cons] at this; omega
                  have HU2 := Lib.hid (fun W : World => refUnescape_any (s.extract (r + 1) q) W (by rw [ByteArray.size_extract]; omega))
                  rw [hex] at HU2
                  have hvl : (valL p).length ≤ 5000 := by
                    have h6 := congrArg List.length hex
                    rw [length_strL, ByteArray.size_extract] at h6
                    omega
                  by_cases hlv : looseL (valL p) < (valL p).length
                  · have HFIN : Hid (goP (restL (strL s) 0) 0 [] = ([], 60, ((k + ((nameL p).length + 1 + looseL (valL p)) : Nat) : Int))) := Lib.hid (by rw [HST2.out, if_pos (by omega), hlp])
                    rw [unescL, if_pos hlv] at HU2
                    obtain ⟨x, hx⟩ : ∃ x, x = looseL (valL p) := ⟨_, rfl⟩
                    have hx5 : x ≤ 5000 := by omega
                    have HPOS : Hid (((k + ((nameL p).length + 1 + x) : Nat) : Int) = (r : Int) + 1 + (x : Int)) := Lib.hid (by have := HR.out; omega)
                    rw [← hx] at HU2 HFIN
                    have hx0 : (0 : Int) ≤ (x : Int) := by omega
                    clear hlv hx hlp hlen hvl hex h1 h2 h3 h4 h5 hla hlaf hle hrq
                    go_wp2_with (go_at_call 19; (with_reducible refine (HU2.out _).mono ?_); rintro e w3 ⟨rfl, hb⟩; have HB3 := Lib.hid (HBE.out.trans ((HB2.out.trans (hb.mono HB2.out.size)).mono HBE.out.size)); clear hb)
                    go_ret3
                    rw [HR0.out, HFIN.out]
                    exact ⟨none, 0, by rw [HPOS.out]; rfl, LiesP.nil _ _, HB3.out⟩
                  · have hle2 := looseL_le (valL p)
                    have hlvf : looseL (valL p) = (valL p).length := by omega
                    have hvs := (meanL_bytes _ (Nat.le_refl _) HPB.out.2 hlvf).2
                    rw [unescL, if_neg hlv] at HU2
                    have HM := Lib.hid (show vm.size ≤ 5000 ∧ looseL p = p.length from ⟨by rw [HV.out, size_toS]; omega, by omega⟩)
                    rw [← HV.out] at HU2
                    clear hlv hlvf hle2 hlp hlen hvl hvs hex h1 h2 h3 h4 h5 hla hlaf hle hrq
                    go_wp2_with (go_at_call 19; (with_reducible refine (HU2.out _).mono ?_); rintro e w3 ⟨rfl, hb⟩; have HB3 := Lib.hid (HB2.out.trans (hb.mono HB2.out.size)); clear hb)
                    go_meet
                    exact ⟨rfl, rfl, HM.out.1, HM.out.2, HB3.out⟩
              case rest =>
                obtain ⟨rfl, rfl, hvm5, hlp, hbc⟩ := hcut
                have HBC := Lib.hid hbc
                have HST3 := Lib.hid (HST2.out.trans (by rw [if_neg (by omega), ← HNE.out, ← HV.out]))
                have HRP := Lib.hid (rightP_eq nm vm)
                have hnm5 := HNM.out
                have HB1 := Lib.hid (fun W : World => refBad_any nm W (by omega))
                have HB2' := Lib.hid (fun W : World => refBad_any vm W (by omega))
                have HBW := Lib.hid (HBE.out.trans (hbc.mono HBE.out.size))
                clear hbc hlp hla hlaf hle
                by_cases hn0 : nm = ⟨#[]⟩
                · have HFIN : Hid (goP (restL (strL s) 0) 0 [] = ([], 60, (k : Int))) := Lib.hid (by rw [HST3.out, HRP.out, hn0, if_pos (by simp)])
                  subst hn0
                  go_wp2
                  go_ret3
                  rw [HR0.out, HFIN.out]
                  exact ⟨none, 0, rfl, LiesP.nil _ _, HBW.out⟩
                · have hpos : 0 < nm.size := Nat.pos_of_ne_zero fun h0 => hn0 (by
                    cases nm with | mk d => cases d with | mk l => cases l with | nil => rfl | cons x r => simp [ByteArray.size] at h0)
                  have f1 := notEmpty hpos
                  have f2 : (nm.toList == []) = false := by
                    rw [beq_eq_false_iff_ne]; intro h; rw [h] at f1; simp at f1
                  have f3 : ¬ nm.toList = [] := by intro h; rw [h] at f1; simp at f1
                  have HRP2 : Hid (rightP (nm, vm) = (isU nm && isU vm)) := Lib.hid (by rw [HRP.out]; simp [hn0])
                  clear hn0
                  cases hu1 : isU nm with
                  | false =>
                    have hb1 := badR_pos hu1
                    have HFIN : Hid (goP (restL (strL s) 0) 0 [] = ([], 60, (k : Int))) := Lib.hid (by rw [HST3.out, HRP2.out, hu1, if_pos (by simp)])
                    obtain ⟨x, hx⟩ : ∃ x, x = badR (strL nm) := ⟨_, rfl⟩
                    rw [← hx] at HB1 hb1
                    clear hu1 hx
                    go_wp2_with (go_at_call 25; (with_reducible refine (HB1.out _).mono ?_); rintro e w3 ⟨rfl, hb⟩; have HW3 := Lib.hid (HBE.out.trans ((HBC.out.trans (hb.mono HBC.out.size)).mono HBE.out.size)); clear hb)
                    go_ret3
                    rw [HR0.out, HFIN.out]
                    exact ⟨none, 0, rfl, LiesP.nil _ _, HW3.out⟩
                  | true =>
                    have hb1 := badR_neg hu1
                    rw [hb1] at HB1
                    have f4 : ¬ (0 : Int) ≤ -1 := by decide
                    cases hu2 : isU vm with
                    | false =>
                      have hb2 := badR_pos hu2
                      have HFIN : Hid (goP (restL (strL s) 0) 0 [] = ([], 60, (k : Int))) := Lib.hid (by rw [HST3.out, HRP2.out, hu1, hu2, if_pos (by simp)])
                      obtain ⟨x, hx⟩ : ∃ x, x = badR (strL vm) := ⟨_, rfl⟩
                      rw [← hx] at HB2' hb2
                      clear hu1 hu2 hb1 hx
                      go_wp2_with (first
                        | (go_at_call 25; (with_reducible refine (HB1.out _).mono ?_); rintro e w3 ⟨rfl, hb⟩; have HW3 := Lib.hid (HBE.out.trans ((HBC.out.trans (hb.mono HBC.out.size)).mono HBE.out.size)); clear hb)
                        | (go_at_call 25; (with_reducible refine (HB2'.out _).mono ?_); rintro e w4 ⟨rfl, hb⟩; have HW4 := Lib.hid (HW3.out.trans (hb.mono HW3.out.size)); clear hb))
                      go_ret3
                      rw [HR0.out, HFIN.out]
                      exact ⟨none, 0, rfl, LiesP.nil _ _, HW4.out⟩
                    | true =>
                      have hb2 := badR_neg hu2
                      rw [hb2] at HB2'
                      have HST4 := Lib.hid (HST3.out.trans (by rw [HRP2.out, hu1, hu2, if_neg (by simp)]))
                      have HG := Lib.hid (fun (W : World) (hW : Below wv.heap.size wv W) => refGet_any A acc n c nm W HN.out (by omega) (HLI.out.below hW))
                      obtain ⟨u, hu⟩ : ∃ u, u = (getB acc nm).1 := ⟨_, rfl⟩
                      rw [← hu] at HG
                      clear hu1 hu2 hb1 hb2 hu
                      cases hg : (getB acc nm).2 with
                      | true =>
                        rw [hg] at HG
                        have HFIN : Hid (goP (restL (strL s) 0) 0 [] = ([], 52, (k : Int))) := Lib.hid (by rw [HST4.out, if_pos hg])
                        clear hg
                        go_wp2_with (first
                          | (go_at_call 25; (with_reducible refine (HB1.out _).mono ?_); rintro e w3 ⟨rfl, hb⟩; have HV3 := Lib.hid (HBC.out.trans (hb.mono HBC.out.size)); clear hb)
                          | (go_at_call 25; (with_reducible refine (HB2'.out _).mono ?_); rintro e w4 ⟨rfl, hb⟩; have HV4 := Lib.hid (HV3.out.trans (hb.mono HV3.out.size)); clear hb)
                          | (go_at_call 17; (with_reducible refine (HG.out _ HV4.out).mono ?_); rintro e w5 ⟨rfl, rfl⟩))
                        go_ret3
                        rw [HR0.out, HFIN.out]
                        exact ⟨none, 0, rfl, LiesP.nil _ _, HBE.out.trans (HV4.out.mono HBE.out.size)⟩
                      | false =>
                        rw [hg] at HG
                        have HST5 := Lib.hid (HST4.out.trans (by rw [if_neg (by rw [hg]; simp)]))
                        clear hg
                        by_cases h32 : n = 32
                        · have e32 : ((n : Int) == 32) = true := by rw [beq_iff_eq]; omega
                          have HFIN : Hid (goP (restL (strL s) 0) 0 [] = ([], 53, -1)) := Lib.hid (by rw [HST5.out, if_pos (by rw [HN.out]; exact h32)])
                          clear h32
                          go_wp2_with (first
                            | (go_at_call 25; (with_reducible refine (HB1.out _).mono ?_); rintro e w3 ⟨rfl, hb⟩; have HV3 := Lib.hid (HBC.out.trans (hb.mono HBC.out.size)); clear hb)
                            | (go_at_call 25; (with_reducible refine (HB2'.out _).mono ?_); rintro e w4 ⟨rfl, hb⟩; have HV4 := Lib.hid (HV3.out.trans (hb.mono HV3.out.size)); clear hb)
                            | (go_at_call 17; (with_reducible refine (HG.out _ HV4.out).mono ?_); rintro e w5 ⟨rfl, rfl⟩))
                          go_ret3
                          rw [HR0.out, HFIN.out]
                          exact ⟨none, 0, rfl, LiesP.nil _ _, HBE.out.trans (HV4.out.mono HBE.out.size)⟩
                        · have e32 : ((n : Int) == 32) = false := by rw [beq_eq_false_iff_ne]; omega
                          have hn31 : n ≤ 31 := by omega
                          have HNX : Hid (goP (restL (strL s) 0) 0 [] = goP (restL (strL s) (k + (p.length + 1))) (k + (p.length + 1)) (acc ++ [(nm, vm)])) := Lib.hid (by rw [HST5.out, if_neg (by rw [HN.out]; exact h32), HRE.out])
                          have HQ1 : Hid (k + (p.length + 1) = q + 1) := Lib.hid (by have := HQ.out; omega)
                          clear h32
                          go_wp2_with (first
                            | (go_at_call 25; (with_reducible refine (HB1.out _).mono ?_); rintro e w3 ⟨rfl, hb⟩; have HV3 := Lib.hid (HBC.out.trans (hb.mono HBC.out.size)); clear hb)
                            | (go_at_call 25; (with_reducible refine (HB2'.out _).mono ?_); rintro e w4 ⟨rfl, hb⟩; have HV4 := Lib.hid (HV3.out.trans (hb.mono HV3.out.size)); clear hb)
                            | (go_at_call 17; (with_reducible refine (HG.out _ HV4.out).mono ?_); rintro e w5 ⟨rfl, rfl⟩)
                            | (at_builtin; refine wpList_append_own _ rfl (.tmp 104) (.tmp 108) 23 rfl w.heap.size 45 i0 (.agg #[.string ⟨#[]⟩, .string ⟨#[]⟩]) 2 32 Tryd.underlying23 hi0 hz0 hz1 hz2 rfl (by decide) _ n _ rfl ((HOW.out.kept (row := none) (grownBy_of_below HV4.out none) (Classical.em _)).alloc _) ⟨w4.heap.size, 0, none⟩ 1 1 [.string nm, .string vm] rfl rfl ?c1 ?c2 ?c3 ?c4 ?c5 ?_))
                          case c1 =>
                            intro i u hi
                            match i, hi with
                            | 0, hi => simp at hi; subst hi; simp [Addr.add]
                            | 1, hi => simp at hi; subst hi; simp [Addr.add]
                          case c2 => intro u hu; simp at hu; rcases hu with rfl | rfl <;> rfl
                          case c3 => unfold maxLen; omega
                          case c4 => omega
                          case c5 => have := HV4.out.size; simp; omega
                          intro v' w6 hown' hgr _
                          have HF : Hid (w6.ownsRow w.heap.size 45 2 v' (n + 1) (flatP (acc ++ [(nm, vm)])) ∧ Below w.heap.size w w6) := Lib.hid ⟨by rw [flatP_snoc]; exact hown',
                            ((HBE.out.trans (HV4.out.mono HBE.out.size)).alloc (by have := HV4.out.size; omega) _).grown hgr (by have := HV4.out.size; simp; omega) (own_ge HOW.out)⟩
                          have HL2 : Hid ((acc ++ [(nm, vm)]).length = n + 1) := Lib.hid (by rw [List.length_append, HN.out]; rfl)
                          clear hown' hgr
                          go_wp2_with fail
                          go_roundw
                          case rel => exact ⟨q + 1, n + 1, acc ++ [(nm, vm)], by omega, by go_num, HL2.out, by omega, by rw [HNX.out, HQ1.out], HF.out.1, HF.out.2⟩
                          case measure => simp [intOf]; omega
    · obtain rfl : k = s.size + 1 := by omega
      have HR : Hid (goP (restL (strL s) 0) 0 [] = (acc, 0, -1)) := Lib.hid (by
        rw [HRUN.out, restL, if_neg (by rw [HLEN.out]; omega)]; rfl)
      have hk1 : ¬ ((s.size + 1 : Nat) : Int) ≤ (s.size : Int) := by omega
      have HNN := HN.out
      clear hlt
      obtain ⟨k, hkk⟩ : ∃ k, k = s.size + 1 := ⟨_, rfl⟩
      rw [← hkk] at hk1 ⊢
      clear hkk
      go_wp2
      go_ret3
      rw [HR0.out, HR.out]
      exact ⟨A, c, by rw [HNN]; rfl, HLI.out, HBE.out⟩
end Go.Proofs.YtcjnhgcopdofhaaDoor
