/- JsonLawK: merged. -/
import Derived.Test.YtblheibknpphkaaGreatDoorBa01
import Derived.Test.YtblheibknpphkaaGreatDoorBa04
import Derived.Test.YtblheibknpphkaaGreatDoorBa06
import Derived.Test.YtblheibknpphkaaGreatDoorBa11
import Derived.Test.YtblheibknpphkaaGreatDoorBa18
import Derived.Test.YtblheibknpphkaaGreatDoorBa22
import Derived.Test.YtblheibknpphkaaGreatDoorBa28
import Derived.Test.YtblheibknpphkaaGreatDoorBa39
import Derived.Test.YtblheibknpphkaaGreatDoorBa45
import Derived.Test.YtblheibknpphkaaGreatDoorBa50
import Derived.Test.YtblheibknpphkaaGreatDoorBb03
set_option linter.all false
namespace Go.Proofs.YtblheibknpphkaaGreatDoor
open Go Go.RowKit
theorem parse_strN (s : ByteArray) (n c : Nat) (W : World) (hn : s.size = n) (ha : Ask5 W) (hs : s.size ≤ 5000) : Calls Tryz.prog 11 #[.slice (some ⟨W.heap.size, 0, none⟩) n c] (Lib.bytesWorld W 5 s) fun e w' =>
    ∃ x0 x1 x2 xA xp xc xK xq xd ev, e = .returned (.tuple #[.agg #[.int .i64 x0, .int .i64 x1, .string x2, .slice xA xp xc, .slice xK xq xd], ev]) ∧ RepJ w' (parsedL (strL s)).1 (.agg #[.int .i64 x0, .int .i64 x1, .string x2, .slice xA xp xc, .slice xK xq xd]) ∧ JErr (parsedL (strL s)).2.1 (parsedL (strL s)).2.2 ev w' ∧ Below W.heap.size W w' := by
  subst hn; exact parse_str s c W ha hs
theorem RepJ.kind {W : World} {j : J} {x0 x1 : Int} {x2 : ByteArray} {v3 v4 : Value} (h : RepJ W j (.agg #[.int .i64 x0, .int .i64 x1, .string x2, v3, v4])) : j.kind = x0 := by
  obtain ⟨vk, A, c, e, _⟩ := h.open
  injection e with e
  have := congrArg (fun a : Array Value => a[0]?) e
  simp at this
  exact this.symm
theorem sameJ_kind {a b : J} (h : sameJ a b = true) : a.kind = b.kind := by
  cases a; cases b
  rw [sameJ] at h
  simp only [Bool.and_eq_true, decide_eq_true_eq] at h
  exact h.1.1.1.1
set_option maxRecDepth 100000 in
set_option maxHeartbeats 16000000 in
theorem jsonBlanks_any (s : ByteArray) (ah be : Int) (w : World) (ha : Ask5 w) (hs : s.size ≤ 9223372036854775807) (a0 : 0 ≤ ah ∧ ah ≤ 255) (b0 : 0 ≤ be ∧ be ≤ 255) : Calls Tryz.prog 6 #[.string s, .int .u8 ah, .int .u8 be] w fun e w' => e = .returned (.bool true) ∧ Below w.heap.size w w' := by
  have HA := Lib.hid ha
  have HAL := Lib.hid (alive5_any w ha)
  clear ha
  by_cases h5 : s.size ≤ 3000
  case neg =>
    have hI : (3000 : Int) < (s.size : Int) := by omega
    go_enter Tryz.func6, Tryz.ntmps6
    go_wp2_with fail
    refine HAL.out.mono ?_
    rintro e w1 ⟨rfl, hb⟩
    have HB1 := Lib.hid hb
    clear hb
    go_wp2_with fail
    go_ret
    exact ⟨rfl, HB1.out⟩
  case pos =>
  have hI : ¬ (3000 : Int) < (s.size : Int) := by omega
  have hconv := fun (W : World) => Lib.run_convert_string_bytes (P := Tryz.prog) W 9 31 5 s Tryz.underlying9 Tryz.underlying31 Tryz.underlying5
  have HP := Lib.hid (fun (W : World) (c : Nat) (h : Ask5 W) => parse_str s c W h (by omega))
  obtain ⟨LA, hLA⟩ : ∃ x, x = blkL ah (ah % 9).toNat := ⟨_, rfl⟩
  obtain ⟨LB, hLB⟩ : ∃ x, x = blkL be (be % 9).toNat := ⟨_, rfl⟩
  have hla : (LA.length : Int) = ah % 9 := by rw [hLA, blkL_len]; omega
  have hlb : (LB.length : Int) = be % 9 := by rw [hLB, blkL_len]; omega
  have HBA1 := Lib.hid (fun W : World => blank_any ah W a0.1 a0.2)
  have HBB1 := Lib.hid (fun W : World => blank_any be W b0.1 b0.2)
  have hbyA : Bytes LA := by rw [hLA]; exact blkL_by _ _
  have hbyB : Bytes LB := by rw [hLB]; exact blkL_by _ _
  have hpb := parsed_blanks LA (strL s) LB (by rw [hLA]; exact blkL_blank _ _) (by rw [hLB]; exact blkL_blank _ _) (by rw [List.length_append, List.length_append, length_strL]; omega)
  rw [← hLA] at HBA1
  rw [← hLB] at HBB1
  obtain ⟨SA, hSA⟩ : ∃ x, x = toS LA := ⟨_, rfl⟩
  obtain ⟨SB, hSB⟩ : ∃ x, x = toS LB := ⟨_, rfl⟩
  rw [← hSA] at HBA1
  rw [← hSB] at HBB1
  have hT : strL (SA ++ s ++ SB) = LA ++ strL s ++ LB := by rw [strL_append, strL_append, hSA, hSB, strL_toS hbyA, strL_toS hbyB]
  have hzA : SA.size ≤ 8 := by rw [hSA, size_toS]; omega
  have hzB : SB.size ≤ 8 := by rw [hSB, size_toS]; omega
  have hzT : (SA ++ s ++ SB).size ≤ 5000 := by rw [ByteArray.size_append, ByteArray.size_append]; omega
  have HP2 := Lib.hid (fun (W : World) (c : Nat) (h : Ask5 W) => parse_strN (SA ++ s ++ SB) (SA.size + s.size + SB.size) c W (by rw [ByteArray.size_append, ByteArray.size_append]) h hzT)
  rw [hT] at HP2
  have r1 := fun W : World => run_string_add_sum (P := Tryz.prog) (w := W) SA s (by omega)
  have r2 := fun W : World => run_string_add_sum (P := Tryz.prog) (w := W) (SA ++ s) SB (by rw [ByteArray.size_append]; omega)
  have q1 : SA.size + s.size ≤ 9223372036854775807 := by omega
  have q2 : (SA ++ s).size + SB.size ≤ 9223372036854775807 := by rw [ByteArray.size_append]; omega
  have hconv2 := fun (W : World) => Lib.run_convert_string_bytes (P := Tryz.prog) W 9 31 5 (SA ++ s ++ SB) Tryz.underlying9 Tryz.underlying31 Tryz.underlying5
  have HFR : Hid (∀ k, (hk : k < s.size) → (parsedL (strL s)).2.1 = 0 → (parsedL ((strL s).take k)).2.1 = 0 → 3 ≤ (parsedL ((strL s).take k)).1.kind → isB ((s[k].toNat : Nat) : Int) = true) := Lib.hid fun k hk e1 e2 e3 => by
    cases hbb : isB ((s[k].toNat : Nat) : Int) with
    | true => rfl
    | false =>
      exfalso
      have hk2 : k < (strL s).length := by rw [length_strL]; exact hk
      have hsplit : (strL s).take k ++ (strL s)[k] :: (strL s).drop (k + 1) = strL s := by
        rw [← List.drop_eq_getElem_cons hk2, List.take_append_drop]
      have hg := strL_get s k hk
      rw [List.getD_eq_getElem?_getD, List.getElem?_eq_getElem hk2] at hg
      have := parsed_front ((strL s).take k) (strL s)[k] ((strL s).drop (k + 1)) (by rw [show (strL s)[k] = ((s[k].toNat : Nat) : Int) from hg]; exact hbb) (by rw [hsplit, length_strL]; omega) e2 e3
      rw [hsplit] at this
      exact this e1
  obtain ⟨r, hr⟩ : ∃ r, r = parsedL (strL s) := ⟨_, rfl⟩
  obtain ⟨r', hr'⟩ : ∃ r, r = parsedL (LA ++ strL s ++ LB) := ⟨_, rfl⟩
  rw [← hr] at HP hpb HFR
  rw [← hr'] at HP2 hpb
  obtain ⟨j, n, p⟩ := r
  obtain ⟨j2, n2, p2⟩ := r'
  obtain ⟨e1, e2, e3⟩ := hpb
  replace e1 : j2 = j := e1
  replace e2 : n2 = n := e2
  subst e1; subst e2
  rw [length_strL] at e3
  have HE3 : Hid (n2 ≠ 0 → p < (s.size : Int) → p2 = p + ah % 9) := Lib.hid (fun h1 h2 => by have := e3 h1 h2; rw [← hla]; exact this)
  replace HFR : Hid (n2 = 0 → ∀ k, (hk : k < s.size) → (parsedL ((strL s).take k)).2.1 = 0 → 3 ≤ (parsedL ((strL s).take k)).1.kind → isB ((s[k].toNat : Nat) : Int) = true) := Lib.hid (fun h k hk => HFR.out k hk h)
  obtain ⟨a9, ha9⟩ : ∃ x, x = ah % 9 := ⟨_, rfl⟩
  have t9 : ah.tmod 9 = a9 := by rw [Int.tmod_eq_emod_of_nonneg a0.1]; exact ha9.symm
  have ha9b : 0 ≤ a9 ∧ a9 ≤ 8 := by omega
  rw [← ha9] at HE3
  have HSM := Lib.hid (fun (va vb : Value) (W : World) (h1 : RepJ W j2 va) (h2 : RepJ W j2 vb) => same_any j2 j2 va vb W h1 h2)
  rw [sameJ_refl] at HSM
  have ebn : (n2 == n2) = true := by simp
  have ebn2 : (n2 != n2) = false := by simp
  clear hr hr' e3 hla hlb hLA hLB hSA hSB hT hzT hbyA hbyB ha9
  go_enter Tryz.func6, Tryz.ntmps6
  go_wp2_with fail
  refine HAL.out.mono ?_
  rintro e w1 ⟨rfl, hb⟩
  have HB1 := Lib.hid hb
  clear hb
  go_wp2_with fail
  refine (HP.out _ _ (HA.out.below HB1.out)).mono ?_
  rintro e w2 ⟨x0, x1, x2, xA, xp, xc, xK, xq, xd, ev, rfl, hrj, hev, hb⟩
  have HR1 := Lib.hid hrj
  have HKD : Hid (j2.kind = x0) := Lib.hid (hrj.kind)
  have HE := Lib.hid hev
  have HB2 := Lib.hid (HB1.out.trans (hb.mono HB1.out.size))
  clear hrj hev hb hconv
  go_wp2_with (first | (refine wpList_alloc_blk rfl (some 8) rfl _ rfl _ zeroJs ?_; intro g8 wa8 hg8 hb8 hgr8; have HA8 := Lib.hid hgr8; have HG8 := Lib.hid hg8; clear hgr8 hg8; try go_frame) | (refine wpList_store_blk rfl none rfl _ (.tmp 8) _ rfl g8 0 [.int .i64 x0, .int .i64 x1, .string x2, .slice xA xp xc, .slice xK xq xd] rfl rfl _ _ hb8 (by simp [zeros5]) sizeJson (by intro v hv; simp at hv; rcases hv with rfl | rfl | rfl | rfl | rfl <;> rfl) ?_; intro ws8 hc8 hgs8; rw [splice_all _ _ (by simp [zeros5])] at hc8; have HS8 := Lib.hid (mid_below HB2.out HA8.out HG8.out hgs8); have HM8 := Lib.hid (mid_below (Below.refl _ _) HA8.out HG8.out hgs8); have HK8 := Lib.hid hc8; clear hgs8 hc8; try go_frame))
  refine (HBA1.out _).mono ?_
  rintro e w3 ⟨rfl, hb⟩
  have HB3 := Lib.hid (HS8.out.trans (hb.mono HS8.out.size))
  have HM3 := Lib.hid (HM8.out.trans (hb.mono HM8.out.size))
  have HK3 := Lib.hid (HK8.out.below hb HK8.out.lt)
  clear hb
  go_wp2_with fail
  refine (HBB1.out _).mono ?_
  rintro e w4 ⟨rfl, hb⟩
  have HB4 := Lib.hid (HB3.out.trans (hb.mono HB3.out.size))
  have HM4 := Lib.hid (HM3.out.trans (hb.mono HM3.out.size))
  have HK4 := Lib.hid (HK3.out.below hb HK3.out.lt)
  clear hb
  go_wp2_with fail
  (with_reducible refine (HP2.out _ _ (HA.out.below HB4.out)).mono ?_)
  rintro e w5 ⟨z0, z1, z2, zA, zp, zc, zK, zq, zd, ev2, rfl, hrj, hev, hb⟩
  have HR2 := Lib.hid hrj
  have HE2 := Lib.hid hev
  have HB5 := Lib.hid (HB4.out.trans (hb.mono HB4.out.size))
  have HM5 := Lib.hid (HM4.out.trans (hb.mono HM4.out.size))
  have HK5 := Lib.hid (HK4.out.below hb HK4.out.lt)
  clear hrj hev hb hconv2 r1 r2 q1 q2
  go_wp2_with (first | (refine wpList_alloc_blk rfl (some 10) rfl _ rfl _ zeroJs ?_; intro g10 wa10 hg10 hb10 hgr10; have HA10 := Lib.hid hgr10; have HG10 := Lib.hid hg10; clear hgr10 hg10; try go_frame) | (refine wpList_store_blk rfl none rfl _ (.tmp 10) _ rfl g10 0 [.int .i64 z0, .int .i64 z1, .string z2, .slice zA zp zc, .slice zK zq zd] rfl rfl _ _ hb10 (by simp [zeros5]) sizeJson (by intro v hv; simp at hv; rcases hv with rfl | rfl | rfl | rfl | rfl <;> rfl) ?_; intro ws10 hc10 hgs10; rw [splice_all _ _ (by simp [zeros5])] at hc10; have HS10 := Lib.hid (mid_below HB5.out HA10.out HG10.out hgs10); have HM10 := Lib.hid (mid_below (Below.refl _ _) HA10.out HG10.out hgs10); have HK10 := Lib.hid hc10; clear hgs10 hc10; try go_frame))
  have HM10t := Lib.hid (HM5.out.trans (HM10.out.mono HM5.out.size))
  refine (numJ (HE.out.below HM10t.out) (HA.out.tab.below HS10.out)).mono ?_
  rintro e w6 ⟨rfl, hb⟩
  have HB6 := Lib.hid (HS10.out.trans (hb.mono HS10.out.size))
  have HM6 := Lib.hid (HM10t.out.trans (hb.mono HM10t.out.size))
  have HN6 := Lib.hid (HM10.out.trans (hb.mono HM10.out.size))
  have HK106 := Lib.hid (HK10.out.below hb HK10.out.lt)
  clear hb
  go_wp2_with fail
  refine (numJ (HE2.out.below HN6.out) (HA.out.tab.below HB6.out)).mono ?_
  rintro e w7 ⟨rfl, hb⟩
  have HB7 := Lib.hid (HB6.out.trans (hb.mono HB6.out.size))
  have HM7 := Lib.hid (HM6.out.trans (hb.mono HM6.out.size))
  have HN7 := Lib.hid (HN6.out.trans (hb.mono HN6.out.size))
  have HK107 := Lib.hid (HK106.out.below hb HK106.out.lt)
  have HK87 := Lib.hid (HK5.out.below HN7.out HK5.out.lt)
  clear hb
  obtain ⟨f0, f1, f2, f3, f4⟩ : w7.cell? ⟨g8, 0, none⟩ = some (.int .i64 x0) ∧ w7.cell? ⟨g8, 1, none⟩ = some (.int .i64 x1) ∧ w7.cell? ⟨g8, 2, none⟩ = some (.string x2) ∧ w7.cell? ⟨g8, 3, none⟩ = some (.slice xA xp xc) ∧ w7.cell? ⟨g8, 4, none⟩ = some (.slice xK xq xd) := ⟨(HK87.out).cell 0, (HK87.out).cell 1, (HK87.out).cell 2, (HK87.out).cell 3, (HK87.out).cell 4⟩
  obtain ⟨h0, h1, h2, h3, h4⟩ : w7.cell? ⟨g10, 0, none⟩ = some (.int .i64 z0) ∧ w7.cell? ⟨g10, 1, none⟩ = some (.int .i64 z1) ∧ w7.cell? ⟨g10, 2, none⟩ = some (.string z2) ∧ w7.cell? ⟨g10, 3, none⟩ = some (.slice zA zp zc) ∧ w7.cell? ⟨g10, 4, none⟩ = some (.slice zK zq zd) := ⟨(HK107.out).cell 0, (HK107.out).cell 1, (HK107.out).cell 2, (HK107.out).cell 3, (HK107.out).cell 4⟩
  go_wp2_with fail
  refine (HSM.out _ _ _ (RepJ.below HM7.out _ _ HR1.out) (RepJ.below HN7.out _ _ HR2.out)).mono ?_
  rintro e wA ⟨rfl, hb⟩
  have HBA := Lib.hid (HB7.out.trans (hb.mono HB7.out.size))
  have HM8A := Lib.hid (HM7.out.trans (hb.mono HM7.out.size))
  have HNA := Lib.hid (HN7.out.trans (hb.mono HN7.out.size))
  have HK8A := Lib.hid (HK87.out.below hb HK87.out.lt)
  clear hb f0 f1 f2 f3 f4 h0 h1 h2 h3 h4
  by_cases hn : n2 = 0
  · obtain rfl := HE.out.nil hn
    have HFR2 := HFR.out hn
    replace HFR := Lib.hid HFR2
    clear HFR2 HE3
    have f0 : wA.cell? ⟨g8, 0, none⟩ = some (.int .i64 x0) := HK8A.out.cell 0
    -- no error: kind, length, the loop
    by_cases hk3 : x0 < 3
    · go_wp2_with fail
      go_ret
      exact ⟨rfl, HBA.out⟩
    by_cases h300 : (300 : Int) < (s.size : Int)
    · go_wp2_with fail
      go_ret
      exact ⟨rfl, HBA.out⟩
    have HK3 : Hid (3 ≤ x0) := Lib.hid (by omega)
    go_wp2
    go_loopw [12] (fun v wr => ∃ k : Nat, k ≤ s.size ∧ v = .int .i64 (k : Int) ∧ Below wA.heap.size wA wr) (fun v _ => s.size - (intOf v).toNat)
    case atStart => exact ⟨0, Nat.zero_le _, rfl, Below.refl _ _⟩
    case round =>
      obtain ⟨k, hk, rfl, hbel⟩ := hrel
      have HBE := Lib.hid hbel
      have HBW := Lib.hid (HBA.out.trans (hbel.mono HBA.out.size))
      have HK8w := Lib.hid (HK8A.out.below hbel HK8A.out.lt)
      have HM8w := Lib.hid (HM8A.out.trans (hbel.mono HM8A.out.size))
      clear hbel f0
      by_cases hlt : k < s.size
      case neg =>
        obtain rfl : k = s.size := by omega
        have hge : ¬ (s.size : Int) < (s.size : Int) := by omega
        go_wp2_with fail
        go_ret
        exact ⟨rfl, HBW.out⟩
      case pos =>
      have hi1 : (k : Int) < (s.size : Int) := by omega
      have hi0 : (0 : Int) ≤ (k : Int) := by omega
      have hxe : strL (s.extract 0 k) = (strL s).take k := by rw [strL_extract, List.drop_zero]
      have hsz : (s.extract 0 k).size = k := by rw [← length_strL, hxe, List.length_take, length_strL]; omega
      have HSZK := Lib.hid hsz
      have HPK := Lib.hid (fun (W : World) (n c : Nat) (hn : (s.extract 0 k).size = n) (h : Ask5 W) => parse_strN (s.extract 0 k) n c W hn h (by omega))
      have hfr := HFR.out k hlt
      rw [hxe] at HPK
      obtain ⟨r3, hr3⟩ : ∃ r, r = parsedL ((strL s).take k) := ⟨_, rfl⟩
      rw [← hr3] at HPK hfr
      obtain ⟨j3, n3, p3⟩ := r3
      obtain ⟨E, hE⟩ : ∃ E, E = s.extract 0 k := ⟨_, rfl⟩
      have HFK : Hid (n3 = 0 → 3 ≤ j3.kind → isB ((s[k].toNat : Nat) : Int) = true) := Lib.hid hfr
      have HSMK := Lib.hid (fun (va vb : Value) (W : World) (h1 : RepJ W j3 va) (h2 : RepJ W j2 vb) => same_any j3 j2 va vb W h1 h2)
      have hcvk := fun (W : World) => Lib.run_convert_string_bytes (P := Tryz.prog) W 9 31 5 (s.extract 0 k) Tryz.underlying9 Tryz.underlying31 Tryz.underlying5
      clear hr3 hxe hfr hE hsz
      go_wp2_with fail
      (with_reducible refine (HPK.out _ _ _ ?hnk (HA.out.below HBW.out)).mono ?_)
      case hnk => first | exact HSZK.out | (have := HSZK.out; simp at this ⊢; omega)
      rintro e w5 ⟨y0, y1, y2, yA, yp, yc, yK, yq, yd, ev3, rfl, hrj, hev3, hb⟩
      have HR3 := Lib.hid hrj
      have HB5 := Lib.hid (HBE.out.trans (hb.mono HBE.out.size))
      have HBW5 := Lib.hid (HBW.out.trans (hb.mono HBW.out.size))
      have HK85 := Lib.hid (HK8w.out.below hb HK8w.out.lt)
      have HM85 := Lib.hid (HM8w.out.trans (hb.mono HM8w.out.size))
      clear hrj hb hcvk
      by_cases hn3 : n3 = 0
      case neg =>
        obtain ⟨dd3, xx3, rfl⟩ := hev3.iface hn3
        clear hev3
        go_wp2_with (first | (refine wpList_alloc_blk rfl (some 13) rfl _ rfl _ zeroJs ?_; intro g13 wa13 hg13 hb13 hgr13; have HA13 := Lib.hid hgr13; have HG13 := Lib.hid hg13; clear hgr13 hg13; try go_frame) | (refine wpList_store_blk rfl none rfl _ (.tmp 13) _ rfl g13 0 [.int .i64 y0, .int .i64 y1, .string y2, .slice yA yp yc, .slice yK yq yd] rfl rfl _ _ hb13 (by simp [zeros5]) sizeJson (by intro v hv; simp at hv; rcases hv with rfl | rfl | rfl | rfl | rfl <;> rfl) ?_; intro ws13 hc13 hgs13; rw [splice_all _ _ (by simp [zeros5])] at hc13; have HS13 := Lib.hid (mid_below HB5.out HA13.out HG13.out hgs13); have HM13 := Lib.hid (mid_below (Below.refl _ _) HA13.out HG13.out hgs13); have HK13 := Lib.hid hc13; clear hgs13 hc13; try go_frame))
        go_roundw
        case rel => exact ⟨k + 1, by omega, by go_num, HS13.out⟩
        case measure => simp [intOf]; omega
      case pos =>
      obtain rfl := hev3.nil hn3
      clear hev3
      go_wp2_with (first | (refine wpList_alloc_blk rfl (some 13) rfl _ rfl _ zeroJs ?_; intro g13 wa13 hg13 hb13 hgr13; have HA13 := Lib.hid hgr13; have HG13 := Lib.hid hg13; clear hgr13 hg13; try go_frame) | (refine wpList_store_blk rfl none rfl _ (.tmp 13) _ rfl g13 0 [.int .i64 y0, .int .i64 y1, .string y2, .slice yA yp yc, .slice yK yq yd] rfl rfl _ _ hb13 (by simp [zeros5]) sizeJson (by intro v hv; simp at hv; rcases hv with rfl | rfl | rfl | rfl | rfl <;> rfl) ?_; intro ws13 hc13 hgs13; rw [splice_all _ _ (by simp [zeros5])] at hc13; have HS13 := Lib.hid (mid_below HB5.out HA13.out HG13.out hgs13); have HM13 := Lib.hid (mid_below (Below.refl _ _) HA13.out HG13.out hgs13); obtain ⟨x130, x131, x132, x133, x134⟩ : ws13.cell? ⟨g13, 0, none⟩ = some (.int .i64 y0) ∧ ws13.cell? ⟨g13, 1, none⟩ = some (.int .i64 y1) ∧ ws13.cell? ⟨g13, 2, none⟩ = some (.string y2) ∧ ws13.cell? ⟨g13, 3, none⟩ = some (.slice yA yp yc) ∧ ws13.cell? ⟨g13, 4, none⟩ = some (.slice yK yq yd) := ⟨hc13.cell 0, hc13.cell 1, hc13.cell 2, hc13.cell 3, hc13.cell 4⟩; have HK13 := Lib.hid hc13; clear hgs13 hc13; try go_frame; obtain ⟨f0, f1, f2, f3, f4⟩ : ws13.cell? ⟨g8, 0, none⟩ = some (.int .i64 x0) ∧ ws13.cell? ⟨g8, 1, none⟩ = some (.int .i64 x1) ∧ ws13.cell? ⟨g8, 2, none⟩ = some (.string x2) ∧ ws13.cell? ⟨g8, 3, none⟩ = some (.slice xA xp xc) ∧ ws13.cell? ⟨g8, 4, none⟩ = some (.slice xK xq xd) := ⟨((HK85.out.below HM13.out HK85.out.lt)).cell 0, ((HK85.out.below HM13.out HK85.out.lt)).cell 1, ((HK85.out.below HM13.out HK85.out.lt)).cell 2, ((HK85.out.below HM13.out HK85.out.lt)).cell 3, ((HK85.out.below HM13.out HK85.out.lt)).cell 4⟩))
      obtain ⟨sm, hsm⟩ : ∃ b, b = sameJ j3 j2 := ⟨_, rfl⟩
      have HSMK2 := HSMK.out _ _ ws13 (RepJ.below HM13.out _ _ HR3.out) (RepJ.below (HM85.out.trans (HM13.out.mono HM85.out.size)) _ _ HR1.out)
      rw [← hsm] at HSMK2
      have HSMJ := Lib.hid hsm
      clear hsm
      refine HSMK2.mono ?_
      rintro e w6 ⟨rfl, hb⟩
      have HB6 := Lib.hid (HS13.out.trans (hb.mono HS13.out.size))
      clear hb HSMK2 x130 x131 x132 x133 x134 f0 f1 f2 f3 f4
      cases sm with
      | false =>
        go_wp2_with fail
        go_roundw
        case rel => exact ⟨k + 1, by omega, by go_num, HB6.out⟩
        case measure => simp [intOf]; omega
      | true =>
        have hkind : j3.kind = j2.kind := sameJ_kind HSMJ.out.symm
        have hbl := HFK.out hn3 (by rw [hkind, HKD.out]; exact HK3.out)
        unfold isB at hbl
        rw [decide_eq_true_eq] at hbl
        clear hkind
        obtain ⟨by8, hby8⟩ : ∃ z : Int, z = ((s[k].toNat : Nat) : Int) := ⟨_, rfl⟩
        rw [← hby8] at hbl
        have hbe := hby8.symm
        clear hby8
        rcases hbl with rfl | rfl | rfl | rfl
        all_goals (go_wp2_with fail; go_roundw)
        all_goals first
          | exact ⟨k + 1, by omega, by go_num, HB6.out⟩
          | (simp [intOf]; omega)
  · obtain ⟨dd, xx, hdx⟩ := HE.out.iface hn
    subst hdx
    -- an error: its place
    go_wp2_with fail
    refine (posJ (HE.out.below HM8A.out) (HA.out.tab.below HBA.out)).mono ?_
    rintro e wB ⟨rfl, hb⟩
    have HBB := Lib.hid (HBA.out.trans (hb.mono HBA.out.size))
    have HMB := Lib.hid (HM8A.out.trans (hb.mono HM8A.out.size))
    have HNB := Lib.hid (HNA.out.trans (hb.mono HNA.out.size))
    clear hb
    by_cases hp0 : 0 ≤ p
    case neg =>
      have dp0 : decide (0 ≤ p) = false := decide_eq_false hp0
      go_wp2_with fail
      go_ret
      exact ⟨rfl, HBB.out⟩
    case pos =>
    have dp0 : decide (0 ≤ p) = true := decide_eq_true hp0
    go_wp2_with fail
    refine (posJ (HE.out.below HMB.out) (HA.out.tab.below HBB.out)).mono ?_
    rintro e wC ⟨rfl, hb⟩
    have HBC := Lib.hid (HBB.out.trans (hb.mono HBB.out.size))
    have HMC := Lib.hid (HMB.out.trans (hb.mono HMB.out.size))
    have HNC := Lib.hid (HNB.out.trans (hb.mono HNB.out.size))
    clear hb
    by_cases hps : p < (s.size : Int)
    case neg =>
      have dps : decide (p < (s.size : Int)) = false := decide_eq_false hps
      go_wp2_with fail
      go_ret
      exact ⟨rfl, HBC.out⟩
    case pos =>
    have dps : decide (p < (s.size : Int)) = true := decide_eq_true hps
    have hp2 := HE3.out hn hps
    subst hp2
    go_wp2_with fail
    refine (posJ (HE2.out.below HNC.out) (HA.out.tab.below HBC.out)).mono ?_
    rintro e wD ⟨rfl, hb⟩
    have HBD := Lib.hid (HBC.out.trans (hb.mono HBC.out.size))
    have HMD := Lib.hid (HMC.out.trans (hb.mono HMC.out.size))
    clear hb
    go_wp2_with fail
    refine (posJ (HE.out.below HMD.out) (HA.out.tab.below HBD.out)).mono ?_
    rintro e wE ⟨rfl, hb⟩
    have HBE := Lib.hid (HBD.out.trans (hb.mono HBD.out.size))
    clear hb
    have wadd : IntKind.i64.wrap (p + a9) = p + a9 := by rw [IntKind.wrap_i64]; omega
    go_wp2_with fail
    go_ret
    exact ⟨rfl, HBE.out⟩
end Go.Proofs.YtblheibknpphkaaGreatDoor
