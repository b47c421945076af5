/- JsonLawB: merged. -/
import Derived.Test.YtblheibknpphkaaGreatDoorBa06
import Derived.Test.YtblheibknpphkaaGreatDoorBa17
import Derived.Test.YtblheibknpphkaaGreatDoorBa45
import Derived.Test.YtblheibknpphkaaGreatDoorBa49
set_option linter.all false
namespace Go.Proofs.YtblheibknpphkaaGreatDoor
open Go Go.RowKit
theorem JErr.nil {n pos : Int} {v : Value} {w : World} (h : JErr n pos v w) (hn : n = 0) : v = .nilIface := by
  rcases h with ⟨_, _, h⟩ | ⟨h, _⟩ | ⟨h, _⟩
  · exact h
  · exact absurd hn h
  · exact absurd hn h
theorem JErr.iface {n pos : Int} {v : Value} {w : World} (h : JErr n pos v w) (hn : n ≠ 0) : ∃ d x, v = .iface d x := by
  rcases h with ⟨h, _⟩ | ⟨_, _, h⟩ | ⟨_, b, h, _⟩
  · exact absurd h hn
  · exact ⟨_, _, h⟩
  · exact ⟨_, _, h⟩
theorem print_wrong (j : J) (v : Value) (w : World) (hj : RepJ w j v) (hM : Mild j) (hm : Marks w) (hr : ¬ ((rgt j 1 256).1 = true ∧ (textL j).length ≤ 4096)) :
    Calls Tryz.prog 17 #[v] w fun e w' => ∃ k, e = .returned (.tuple #[.string ⟨#[]⟩, .iface 58 (.int .i64 k)]) ∧ Below w.heap.size w w' := by
  cases h : (rgt j 1 256).1 with
  | true => exact (print_long j v w hj hM hm h (Nat.lt_of_not_le fun hle => hr ⟨h, hle⟩)).mono fun e w' h => ⟨2, h.1, h.2⟩
  | false =>
    refine (printJ_any j v w hj hM hm).mono ?_
    rintro e w' ⟨rfl, _, hb⟩
    have e1 : printJ j = ([], 1) := by unfold printJ; rw [if_pos h]
    rw [e1]
    exact ⟨1, rfl, hb⟩
/-- A right value's text, read. -/
theorem parse_back (j : J) (W : World) (c : Nat) (ha : Ask5 W) (hr : (rgt j 1 256).1 = true) (hl : (textL j).length ≤ 4096) : Calls Tryz.prog 11 #[.slice (some ⟨W.heap.size, 0, none⟩) (toS (textL j)).size c] (Lib.bytesWorld W 5 (toS (textL j))) fun e w' =>
    ∃ x0 x1 x2 xA xp xc xK xq xd, e = .returned (.tuple #[.agg #[.int .i64 x0, .int .i64 x1, .string x2, .slice xA xp xc, .slice xK xq xd], .nilIface]) ∧ RepJ w' j (.agg #[.int .i64 x0, .int .i64 x1, .string x2, .slice xA xp xc, .slice xK xq xd]) ∧ Below W.heap.size W w' := by
  refine (parse_str (toS (textL j)) c W ha (by rw [size_toS]; omega)).mono ?_
  rintro e w' ⟨x0, x1, x2, xA, xp, xc, xK, xq, xd, ev, rfl, hrj, hev, hb⟩
  rw [strL_toS (textL_by j), parsed_text j hr hl] at hrj hev
  obtain rfl := hev.nil rfl
  exact ⟨_, _, _, _, _, _, _, _, _, rfl, hrj, hb⟩
set_option maxRecDepth 100000 in
set_option maxHeartbeats 8000000 in
theorem jsonBack_any (j : J) (vj : Value) (s : ByteArray) (w : World) (ha : Ask5 w) (hj : RepJ w j vj) (hs : s.size ≤ 9223372036854775807) : Calls Tryz.prog 5 #[vj, .string s] w fun e w' => e = .returned (.bool true) ∧ Below w.heap.size w w' := by
  obtain ⟨x0, x1, x2, xA, xp, xc, xK, xq, xd, rfl⟩ := hj.form
  obtain ⟨B, hB⟩ : ∃ B, B = w.heap.size := ⟨_, rfl⟩
  obtain ⟨w0, hw0⟩ : ∃ W, W = w.alloc (.cells #[.int .i64 x0, .int .i64 x1, .string x2, .slice xA xp xc, .slice xK xq xd] 26) := ⟨_, rfl⟩
  have bx : Blk w0 B 26 [.int .i64 x0, .int .i64 x1, .string x2, .slice xA xp xc, .slice xK xq xd] := by rw [hw0, hB]; exact heapAtJ w _ _
  have bb : Below w.heap.size w w0 := by rw [hw0]; exact belowAlloc w _
  have HAL := Lib.hid (alive5_any w0 (ha.below bb))
  have HA := Lib.hid ha
  have HX := Lib.hid bx
  have HB0 := Lib.hid bb
  have HW0 := Lib.hid hw0
  have HB := Lib.hid hB
  have HJ := Lib.hid hj
  have HGA := Lib.hid (fun (W : World) (h : Below w.heap.size w W) => refGreat_any j _ W (RepJ.below h _ _ hj))
  have HMI := Lib.hid (mild_of_great j 1000)
  obtain ⟨ga, hga⟩ : ∃ r, r = (hgJ j 1000).1 := ⟨_, rfl⟩
  rw [← hga] at HGA HMI
  clear ha hj hB hw0 bx bb hga
  have start : ∀ _ : Unit, True := fun _ => trivial
  go_enter Tryz.func5, Tryz.ntmps5
  go_wp2_with fail
  rw [show w.alloc (.cells #[.int .i64 x0, .int .i64 x1, .string x2, .slice xA xp xc, .slice xK xq xd] 26) = w0 from HW0.out.symm, show w.heap.size = B from HB.out.symm]
  refine HAL.out.mono ?_
  rintro e w1 ⟨rfl, hb⟩
  have HX1 := Lib.hid (HX.out.below hb HX.out.lt)
  have HB1 := Lib.hid (HB0.out.trans (hb.mono HB0.out.size))
  clear hb start
  obtain ⟨f0, f1, f2, f3, f4⟩ : w1.cell? ⟨B, 0, none⟩ = some (.int .i64 x0) ∧ w1.cell? ⟨B, 1, none⟩ = some (.int .i64 x1) ∧ w1.cell? ⟨B, 2, none⟩ = some (.string x2) ∧ w1.cell? ⟨B, 3, none⟩ = some (.slice xA xp xc) ∧ w1.cell? ⟨B, 4, none⟩ = some (.slice xK xq xd) := ⟨(HX1.out).cell 0, (HX1.out).cell 1, (HX1.out).cell 2, (HX1.out).cell 3, (HX1.out).cell 4⟩
  go_wp2_with fail
  refine (HGA.out _ HB1.out).mono ?_
  rintro e w2 ⟨rfl, hb⟩
  have HX2 := Lib.hid (HX1.out.below hb HX1.out.lt)
  have HB2 := Lib.hid (HB1.out.trans (hb.mono HB1.out.size))
  clear hb f0 f1 f2 f3 f4
  cases ga with
  | true =>
    go_wp2_with fail
    go_ret
    exact ⟨rfl, HB2.out⟩
  | false =>
    by_cases h5 : s.size ≤ 5000
    case neg =>
      have hI : (5000 : Int) < (s.size : Int) := by omega
      go_wp2_with fail
      go_ret
      exact ⟨rfl, HB2.out⟩
    case pos =>
    have hI : ¬ (5000 : Int) < (s.size : Int) := by omega
    have HM := HMI.out rfl
    have hconv := fun (W : World) => Lib.run_convert_string_bytes (P := Tryz.prog) W 9 31 5 s Tryz.underlying9 Tryz.underlying31 Tryz.underlying5
    have HP := Lib.hid (fun (W : World) (c : Nat) (h : Ask5 W) => parse_str s c W h h5)
    have HG := Lib.hid (parsed_right (strL s))
    have HZ := Lib.hid (parsedL_ends (strL s)).2
    obtain ⟨r, hr⟩ : ∃ r, r = parsedL (strL s) := ⟨_, rfl⟩
    rw [← hr] at HP HG HZ
    obtain ⟨j2, n2, p2⟩ := r
    replace HG : Hid (n2 = 0 → (rgt j2 1 256).1 = true ∧ Mild j2) := Lib.hid HG.out
    replace HZ : Hid (n2 ≠ 0 → j2 = zeroJ) := Lib.hid HZ.out
    clear hr h5
    obtain ⟨f0, f1, f2, f3, f4⟩ : w2.cell? ⟨B, 0, none⟩ = some (.int .i64 x0) ∧ w2.cell? ⟨B, 1, none⟩ = some (.int .i64 x1) ∧ w2.cell? ⟨B, 2, none⟩ = some (.string x2) ∧ w2.cell? ⟨B, 3, none⟩ = some (.slice xA xp xc) ∧ w2.cell? ⟨B, 4, none⟩ = some (.slice xK xq xd) := ⟨(HX2.out).cell 0, (HX2.out).cell 1, (HX2.out).cell 2, (HX2.out).cell 3, (HX2.out).cell 4⟩
    by_cases hok : (rgt j 1 256).1 = true ∧ (textL j).length ≤ 4096
    · have HPR := print_good j _ w2 (RepJ.below HB2.out _ _ HJ.out) HM (HA.out.marks.below HB2.out) hok.1 hok.2
      have HPB := Lib.hid (fun (W : World) (c : Nat) (h : Ask5 W) => parse_back j W c h hok.1 hok.2)
      obtain ⟨T1, hT1⟩ : ∃ T, T = toS (textL j) := ⟨_, rfl⟩
      rw [← hT1] at HPR HPB
      have hcv1 := fun (W : World) => Lib.run_convert_string_bytes (P := Tryz.prog) W 9 31 5 T1 Tryz.underlying9 Tryz.underlying31 Tryz.underlying5
      clear hT1 hok HM
      go_wp2_with fail
      refine HPR.mono ?_
      rintro e w3 ⟨rfl, hb⟩
      have HX3 := Lib.hid (HX2.out.below hb HX2.out.lt)
      have HB3 := Lib.hid (HB2.out.trans (hb.mono HB2.out.size))
      clear hb HPR f0 f1 f2 f3 f4
      go_wp2_with fail
      refine (HPB.out _ _ (HA.out.below HB3.out)).mono ?_
      rintro e w4 ⟨z0, z1, z2, zA, zp, zc, zK, zq, zd, rfl, hrj, hb⟩
      have HR1 := Lib.hid hrj
      have HX4 := Lib.hid (HX3.out.below hb HX3.out.lt)
      have HB4 := Lib.hid (HB3.out.trans (hb.mono HB3.out.size))
      clear hrj hb hcv1
      go_wp2_with (first | (refine wpList_alloc_blk rfl (some 7) rfl _ rfl _ zeroJs ?_; intro g7 wa7 hg7 hb7 hgr7; have HA7 := Lib.hid hgr7; have HG7 := Lib.hid hg7; clear hgr7 hg7; try go_frame) | (refine wpList_store_blk rfl none rfl _ (.tmp 7) _ rfl g7 0 [.int .i64 z0, .int .i64 z1, .string z2, .slice zA zp zc, .slice zK zq zd] rfl rfl _ _ hb7 (by simp [zeros5]) sizeJson (by intro v hv; simp at hv; rcases hv with rfl | rfl | rfl | rfl | rfl <;> rfl) ?_; intro ws7 hc7 hgs7; rw [splice_all _ _ (by simp [zeros5])] at hc7; have HS7 := Lib.hid (mid_below HB4.out HA7.out HG7.out hgs7); have HM7 := Lib.hid (mid_below (Below.refl _ _) HA7.out HG7.out hgs7); obtain ⟨x70, x71, x72, x73, x74⟩ : ws7.cell? ⟨g7, 0, none⟩ = some (.int .i64 z0) ∧ ws7.cell? ⟨g7, 1, none⟩ = some (.int .i64 z1) ∧ ws7.cell? ⟨g7, 2, none⟩ = some (.string z2) ∧ ws7.cell? ⟨g7, 3, none⟩ = some (.slice zA zp zc) ∧ ws7.cell? ⟨g7, 4, none⟩ = some (.slice zK zq zd) := ⟨hc7.cell 0, hc7.cell 1, hc7.cell 2, hc7.cell 3, hc7.cell 4⟩; have HK7 := Lib.hid hc7; clear hgs7 hc7; try go_frame; obtain ⟨h0, h1, h2, h3, h4⟩ : ws7.cell? ⟨B, 0, none⟩ = some (.int .i64 x0) ∧ ws7.cell? ⟨B, 1, none⟩ = some (.int .i64 x1) ∧ ws7.cell? ⟨B, 2, none⟩ = some (.string x2) ∧ ws7.cell? ⟨B, 3, none⟩ = some (.slice xA xp xc) ∧ ws7.cell? ⟨B, 4, none⟩ = some (.slice xK xq xd) := ⟨((HX4.out.below HM7.out HX4.out.lt)).cell 0, ((HX4.out.below HM7.out HX4.out.lt)).cell 1, ((HX4.out.below HM7.out HX4.out.lt)).cell 2, ((HX4.out.below HM7.out HX4.out.lt)).cell 3, ((HX4.out.below HM7.out HX4.out.lt)).cell 4⟩))
      have HSM := same_any j j _ _ ws7 (RepJ.below HS7.out _ _ HJ.out) (RepJ.below HM7.out _ _ HR1.out)
      rw [sameJ_refl] at HSM
      refine HSM.mono ?_
      rintro e w5 ⟨rfl, hb⟩
      have HB5 := Lib.hid (HS7.out.trans (hb.mono HS7.out.size))
      clear hb HSM x70 x71 x72 x73 x74 h0 h1 h2 h3 h4
      go_wp2_with fail
      refine (HP.out _ _ (HA.out.below HB5.out)).mono ?_
      rintro e wA ⟨u0, u1, u2, uA, up, uc, uK, uq, ud, ev, rfl, hrj, hev, hb⟩
      have HR2 := Lib.hid hrj
      have HBA := Lib.hid (HB5.out.trans (hb.mono HB5.out.size))
      clear hrj hb
      by_cases hn2 : n2 = 0
      · obtain rfl := hev.nil hn2
        obtain ⟨hri, hmi⟩ := HG.out hn2
        clear hev
        go_wp2_with (first | (refine wpList_alloc_blk rfl (some 9) rfl _ rfl _ zeroJs ?_; intro g9 wa9 hg9 hb9 hgr9; have HA9 := Lib.hid hgr9; have HG9 := Lib.hid hg9; clear hgr9 hg9; try go_frame) | (refine wpList_store_blk rfl none rfl _ (.tmp 9) _ rfl g9 0 [.int .i64 u0, .int .i64 u1, .string u2, .slice uA up uc, .slice uK uq ud] rfl rfl _ _ hb9 (by simp [zeros5]) sizeJson (by intro v hv; simp at hv; rcases hv with rfl | rfl | rfl | rfl | rfl <;> rfl) ?_; intro ws9 hc9 hgs9; rw [splice_all _ _ (by simp [zeros5])] at hc9; have HS9 := Lib.hid (mid_below HBA.out HA9.out HG9.out hgs9); have HM9 := Lib.hid (mid_below (Below.refl _ _) HA9.out HG9.out hgs9); obtain ⟨x90, x91, x92, x93, x94⟩ : ws9.cell? ⟨g9, 0, none⟩ = some (.int .i64 u0) ∧ ws9.cell? ⟨g9, 1, none⟩ = some (.int .i64 u1) ∧ ws9.cell? ⟨g9, 2, none⟩ = some (.string u2) ∧ ws9.cell? ⟨g9, 3, none⟩ = some (.slice uA up uc) ∧ ws9.cell? ⟨g9, 4, none⟩ = some (.slice uK uq ud) := ⟨hc9.cell 0, hc9.cell 1, hc9.cell 2, hc9.cell 3, hc9.cell 4⟩; have HK9 := Lib.hid hc9; clear hgs9 hc9; try go_frame))
        have HCK := checkJ_any j2 _ ws9 (RepJ.below HM9.out _ _ HR2.out) hmi (HA.out.marks.below HS9.out)
        rw [if_pos hri] at HCK
        refine HCK.mono ?_
        rintro e wB ⟨rfl, hb⟩
        have HKB := Lib.hid (HK9.out.below hb HK9.out.lt)
        have HBB := Lib.hid (HS9.out.trans (hb.mono HS9.out.size))
        have HMB := Lib.hid (HM9.out.trans (hb.mono HM9.out.size))
        clear hb HCK x90 x91 x92 x93 x94
        obtain ⟨f0, f1, f2, f3, f4⟩ : wB.cell? ⟨g9, 0, none⟩ = some (.int .i64 u0) ∧ wB.cell? ⟨g9, 1, none⟩ = some (.int .i64 u1) ∧ wB.cell? ⟨g9, 2, none⟩ = some (.string u2) ∧ wB.cell? ⟨g9, 3, none⟩ = some (.slice uA up uc) ∧ wB.cell? ⟨g9, 4, none⟩ = some (.slice uK uq ud) := ⟨(HKB.out).cell 0, (HKB.out).cell 1, (HKB.out).cell 2, (HKB.out).cell 3, (HKB.out).cell 4⟩
        by_cases hlen : (textL j2).length ≤ 4096
        · have HPR := print_good j2 _ wB (RepJ.below HMB.out _ _ HR2.out) hmi (HA.out.marks.below HBB.out) hri hlen
          have HPB := Lib.hid (fun (W : World) (c : Nat) (h : Ask5 W) => parse_back j2 W c h hri hlen)
          obtain ⟨T2, hT2⟩ : ∃ T, T = toS (textL j2) := ⟨_, rfl⟩
          rw [← hT2] at HPR HPB
          have hcv2 := fun (W : World) => Lib.run_convert_string_bytes (P := Tryz.prog) W 9 31 5 T2 Tryz.underlying9 Tryz.underlying31 Tryz.underlying5
          clear hT2 hri hmi hlen
          go_wp2_with fail
          refine HPR.mono ?_
          rintro e wC ⟨rfl, hb⟩
          have HKC := Lib.hid (HKB.out.below hb HKB.out.lt)
          have HBC := Lib.hid (HBB.out.trans (hb.mono HBB.out.size))
          have HMC := Lib.hid (HMB.out.trans (hb.mono HMB.out.size))
          clear hb HPR f0 f1 f2 f3 f4
          go_wp2_with fail
          refine (HPB.out _ _ (HA.out.below HBC.out)).mono ?_
          rintro e wD ⟨y0, y1, y2, yA, yp, yc, yK, yq, yd, rfl, hrj, hb⟩
          have HR4 := Lib.hid hrj
          have HKD := Lib.hid (HKC.out.below hb HKC.out.lt)
          have HBD := Lib.hid (HBC.out.trans (hb.mono HBC.out.size))
          have HMD := Lib.hid (HMC.out.trans (hb.mono HMC.out.size))
          clear hrj hb hcv2
          go_wp2_with (first | (refine wpList_alloc_blk rfl (some 13) rfl _ rfl _ zeroJs ?_; intro g13 wa13 hg13 hb13 hgr13; have HA13 := Lib.hid hgr13; have HG13 := Lib.hid hg13; clear hgr13 hg13; try go_frame) | (refine wpList_store_blk rfl none rfl _ (.tmp 13) _ rfl g13 0 [.int .i64 y0, .int .i64 y1, .string y2, .slice yA yp yc, .slice yK yq yd] rfl rfl _ _ hb13 (by simp [zeros5]) sizeJson (by intro v hv; simp at hv; rcases hv with rfl | rfl | rfl | rfl | rfl <;> rfl) ?_; intro ws13 hc13 hgs13; rw [splice_all _ _ (by simp [zeros5])] at hc13; have HS13 := Lib.hid (mid_below HBD.out HA13.out HG13.out hgs13); have HM13 := Lib.hid (mid_below (Below.refl _ _) HA13.out HG13.out hgs13); obtain ⟨x130, x131, x132, x133, x134⟩ : ws13.cell? ⟨g13, 0, none⟩ = some (.int .i64 y0) ∧ ws13.cell? ⟨g13, 1, none⟩ = some (.int .i64 y1) ∧ ws13.cell? ⟨g13, 2, none⟩ = some (.string y2) ∧ ws13.cell? ⟨g13, 3, none⟩ = some (.slice yA yp yc) ∧ ws13.cell? ⟨g13, 4, none⟩ = some (.slice yK yq yd) := ⟨hc13.cell 0, hc13.cell 1, hc13.cell 2, hc13.cell 3, hc13.cell 4⟩; have HK13 := Lib.hid hc13; clear hgs13 hc13; try go_frame; obtain ⟨h0, h1, h2, h3, h4⟩ : ws13.cell? ⟨g9, 0, none⟩ = some (.int .i64 u0) ∧ ws13.cell? ⟨g9, 1, none⟩ = some (.int .i64 u1) ∧ ws13.cell? ⟨g9, 2, none⟩ = some (.string u2) ∧ ws13.cell? ⟨g9, 3, none⟩ = some (.slice uA up uc) ∧ ws13.cell? ⟨g9, 4, none⟩ = some (.slice uK uq ud) := ⟨((HKD.out.below HM13.out HKD.out.lt)).cell 0, ((HKD.out.below HM13.out HKD.out.lt)).cell 1, ((HKD.out.below HM13.out HKD.out.lt)).cell 2, ((HKD.out.below HM13.out HKD.out.lt)).cell 3, ((HKD.out.below HM13.out HKD.out.lt)).cell 4⟩))
          have HSM := same_any j2 j2 _ _ ws13 (RepJ.below (HMD.out.trans (HM13.out.mono HMD.out.size)) _ _ HR2.out) (RepJ.below HM13.out _ _ HR4.out)
          rw [sameJ_refl] at HSM
          refine HSM.mono ?_
          rintro e wE ⟨rfl, hb⟩
          have HBE := Lib.hid (HS13.out.trans (hb.mono HS13.out.size))
          clear hb HSM
          go_wp2_with fail
          go_ret
          exact ⟨rfl, HBE.out⟩
        · have HPR := print_long j2 _ wB (RepJ.below HMB.out _ _ HR2.out) hmi (HA.out.marks.below HBB.out) hri (by omega)
          clear hri hmi hlen
          go_wp2_with fail
          refine HPR.mono ?_
          rintro e wC ⟨rfl, hb⟩
          have HBC := Lib.hid (HBB.out.trans (hb.mono HBB.out.size))
          clear hb HPR
          go_wp2_with fail
          refine (num_errno 2 wC (HA.out.tab.below HBC.out)).mono ?_
          rintro e wD ⟨rfl, hb⟩
          have HBD := Lib.hid (HBC.out.trans (hb.mono HBC.out.size))
          clear hb
          go_wp2_with fail
          go_ret
          exact ⟨rfl, HBD.out⟩
      · obtain ⟨dd, xx, rfl⟩ := hev.iface hn2
        have hz := HZ.out hn2
        clear hev
        go_wp2_with (first | (refine wpList_alloc_blk rfl (some 9) rfl _ rfl _ zeroJs ?_; intro g9 wa9 hg9 hb9 hgr9; have HA9 := Lib.hid hgr9; have HG9 := Lib.hid hg9; clear hgr9 hg9; try go_frame) | (refine wpList_store_blk rfl none rfl _ (.tmp 9) _ rfl g9 0 [.int .i64 u0, .int .i64 u1, .string u2, .slice uA up uc, .slice uK uq ud] rfl rfl _ _ hb9 (by simp [zeros5]) sizeJson (by intro v hv; simp at hv; rcases hv with rfl | rfl | rfl | rfl | rfl <;> rfl) ?_; intro ws9 hc9 hgs9; rw [splice_all _ _ (by simp [zeros5])] at hc9; have HS9 := Lib.hid (mid_below HBA.out HA9.out HG9.out hgs9); have HM9 := Lib.hid (mid_below (Below.refl _ _) HA9.out HG9.out hgs9); obtain ⟨x90, x91, x92, x93, x94⟩ : ws9.cell? ⟨g9, 0, none⟩ = some (.int .i64 u0) ∧ ws9.cell? ⟨g9, 1, none⟩ = some (.int .i64 u1) ∧ ws9.cell? ⟨g9, 2, none⟩ = some (.string u2) ∧ ws9.cell? ⟨g9, 3, none⟩ = some (.slice uA up uc) ∧ ws9.cell? ⟨g9, 4, none⟩ = some (.slice uK uq ud) := ⟨hc9.cell 0, hc9.cell 1, hc9.cell 2, hc9.cell 3, hc9.cell 4⟩; have HK9 := Lib.hid hc9; clear hgs9 hc9; try go_frame))
        have HSM := same_any zeroJ zeroJ _ _ ws9 (by have := RepJ.below HM9.out _ _ HR2.out; rw [hz] at this; exact this) (RepS.toJ _ _ (RepS.zero ws9 (fun _ => True)))
        rw [sameJ_refl] at HSM
        refine HSM.mono ?_
        rintro e wB ⟨rfl, hb⟩
        have HBB := Lib.hid (HS9.out.trans (hb.mono HS9.out.size))
        clear hb HSM
        go_wp2_with fail
        go_ret
        exact ⟨rfl, HBB.out⟩
    · have HPR := print_wrong j _ w2 (RepJ.below HB2.out _ _ HJ.out) HM (HA.out.marks.below HB2.out) hok
      clear hok HM
      go_wp2_with fail
      refine HPR.mono ?_
      rintro e w3 ⟨k, rfl, hb⟩
      have HB3 := Lib.hid (HB2.out.trans (hb.mono HB2.out.size))
      clear hb HPR f0 f1 f2 f3 f4
      go_wp2_with fail
      refine (HP.out _ _ (HA.out.below HB3.out)).mono ?_
      rintro e wA ⟨u0, u1, u2, uA, up, uc, uK, uq, ud, ev, rfl, hrj, hev, hb⟩
      have HR2 := Lib.hid hrj
      have HBA := Lib.hid (HB3.out.trans (hb.mono HB3.out.size))
      clear hrj hb
      by_cases hn2 : n2 = 0
      · obtain rfl := hev.nil hn2
        obtain ⟨hri, hmi⟩ := HG.out hn2
        clear hev
        go_wp2_with (first | (refine wpList_alloc_blk rfl (some 9) rfl _ rfl _ zeroJs ?_; intro g9 wa9 hg9 hb9 hgr9; have HA9 := Lib.hid hgr9; have HG9 := Lib.hid hg9; clear hgr9 hg9; try go_frame) | (refine wpList_store_blk rfl none rfl _ (.tmp 9) _ rfl g9 0 [.int .i64 u0, .int .i64 u1, .string u2, .slice uA up uc, .slice uK uq ud] rfl rfl _ _ hb9 (by simp [zeros5]) sizeJson (by intro v hv; simp at hv; rcases hv with rfl | rfl | rfl | rfl | rfl <;> rfl) ?_; intro ws9 hc9 hgs9; rw [splice_all _ _ (by simp [zeros5])] at hc9; have HS9 := Lib.hid (mid_below HBA.out HA9.out HG9.out hgs9); have HM9 := Lib.hid (mid_below (Below.refl _ _) HA9.out HG9.out hgs9); obtain ⟨x90, x91, x92, x93, x94⟩ : ws9.cell? ⟨g9, 0, none⟩ = some (.int .i64 u0) ∧ ws9.cell? ⟨g9, 1, none⟩ = some (.int .i64 u1) ∧ ws9.cell? ⟨g9, 2, none⟩ = some (.string u2) ∧ ws9.cell? ⟨g9, 3, none⟩ = some (.slice uA up uc) ∧ ws9.cell? ⟨g9, 4, none⟩ = some (.slice uK uq ud) := ⟨hc9.cell 0, hc9.cell 1, hc9.cell 2, hc9.cell 3, hc9.cell 4⟩; have HK9 := Lib.hid hc9; clear hgs9 hc9; try go_frame))
        have HCK := checkJ_any j2 _ ws9 (RepJ.below HM9.out _ _ HR2.out) hmi (HA.out.marks.below HS9.out)
        rw [if_pos hri] at HCK
        refine HCK.mono ?_
        rintro e wB ⟨rfl, hb⟩
        have HKB := Lib.hid (HK9.out.below hb HK9.out.lt)
        have HBB := Lib.hid (HS9.out.trans (hb.mono HS9.out.size))
        have HMB := Lib.hid (HM9.out.trans (hb.mono HM9.out.size))
        clear hb HCK x90 x91 x92 x93 x94
        obtain ⟨f0, f1, f2, f3, f4⟩ : wB.cell? ⟨g9, 0, none⟩ = some (.int .i64 u0) ∧ wB.cell? ⟨g9, 1, none⟩ = some (.int .i64 u1) ∧ wB.cell? ⟨g9, 2, none⟩ = some (.string u2) ∧ wB.cell? ⟨g9, 3, none⟩ = some (.slice uA up uc) ∧ wB.cell? ⟨g9, 4, none⟩ = some (.slice uK uq ud) := ⟨(HKB.out).cell 0, (HKB.out).cell 1, (HKB.out).cell 2, (HKB.out).cell 3, (HKB.out).cell 4⟩
        by_cases hlen : (textL j2).length ≤ 4096
        · have HPR := print_good j2 _ wB (RepJ.below HMB.out _ _ HR2.out) hmi (HA.out.marks.below HBB.out) hri hlen
          have HPB := Lib.hid (fun (W : World) (c : Nat) (h : Ask5 W) => parse_back j2 W c h hri hlen)
          obtain ⟨T2, hT2⟩ : ∃ T, T = toS (textL j2) := ⟨_, rfl⟩
          rw [← hT2] at HPR HPB
          have hcv2 := fun (W : World) => Lib.run_convert_string_bytes (P := Tryz.prog) W 9 31 5 T2 Tryz.underlying9 Tryz.underlying31 Tryz.underlying5
          clear hT2 hri hmi hlen
          go_wp2_with fail
          refine HPR.mono ?_
          rintro e wC ⟨rfl, hb⟩
          have HKC := Lib.hid (HKB.out.below hb HKB.out.lt)
          have HBC := Lib.hid (HBB.out.trans (hb.mono HBB.out.size))
          have HMC := Lib.hid (HMB.out.trans (hb.mono HMB.out.size))
          clear hb HPR f0 f1 f2 f3 f4
          go_wp2_with fail
          refine (HPB.out _ _ (HA.out.below HBC.out)).mono ?_
          rintro e wD ⟨y0, y1, y2, yA, yp, yc, yK, yq, yd, rfl, hrj, hb⟩
          have HR4 := Lib.hid hrj
          have HKD := Lib.hid (HKC.out.below hb HKC.out.lt)
          have HBD := Lib.hid (HBC.out.trans (hb.mono HBC.out.size))
          have HMD := Lib.hid (HMC.out.trans (hb.mono HMC.out.size))
          clear hrj hb hcv2
          go_wp2_with (first | (refine wpList_alloc_blk rfl (some 13) rfl _ rfl _ zeroJs ?_; intro g13 wa13 hg13 hb13 hgr13; have HA13 := Lib.hid hgr13; have HG13 := Lib.hid hg13; clear hgr13 hg13; try go_frame) | (refine wpList_store_blk rfl none rfl _ (.tmp 13) _ rfl g13 0 [.int .i64 y0, .int .i64 y1, .string y2, .slice yA yp yc, .slice yK yq yd] rfl rfl _ _ hb13 (by simp [zeros5]) sizeJson (by intro v hv; simp at hv; rcases hv with rfl | rfl | rfl | rfl | rfl <;> rfl) ?_; intro ws13 hc13 hgs13; rw [splice_all _ _ (by simp [zeros5])] at hc13; have HS13 := Lib.hid (mid_below HBD.out HA13.out HG13.out hgs13); have HM13 := Lib.hid (mid_below (Below.refl _ _) HA13.out HG13.out hgs13); obtain ⟨x130, x131, x132, x133, x134⟩ : ws13.cell? ⟨g13, 0, none⟩ = some (.int .i64 y0) ∧ ws13.cell? ⟨g13, 1, none⟩ = some (.int .i64 y1) ∧ ws13.cell? ⟨g13, 2, none⟩ = some (.string y2) ∧ ws13.cell? ⟨g13, 3, none⟩ = some (.slice yA yp yc) ∧ ws13.cell? ⟨g13, 4, none⟩ = some (.slice yK yq yd) := ⟨hc13.cell 0, hc13.cell 1, hc13.cell 2, hc13.cell 3, hc13.cell 4⟩; have HK13 := Lib.hid hc13; clear hgs13 hc13; try go_frame; obtain ⟨h0, h1, h2, h3, h4⟩ : ws13.cell? ⟨g9, 0, none⟩ = some (.int .i64 u0) ∧ ws13.cell? ⟨g9, 1, none⟩ = some (.int .i64 u1) ∧ ws13.cell? ⟨g9, 2, none⟩ = some (.string u2) ∧ ws13.cell? ⟨g9, 3, none⟩ = some (.slice uA up uc) ∧ ws13.cell? ⟨g9, 4, none⟩ = some (.slice uK uq ud) := ⟨((HKD.out.below HM13.out HKD.out.lt)).cell 0, ((HKD.out.below HM13.out HKD.out.lt)).cell 1, ((HKD.out.below HM13.out HKD.out.lt)).cell 2, ((HKD.out.below HM13.out HKD.out.lt)).cell 3, ((HKD.out.below HM13.out HKD.out.lt)).cell 4⟩))
          have HSM := same_any j2 j2 _ _ ws13 (RepJ.below (HMD.out.trans (HM13.out.mono HMD.out.size)) _ _ HR2.out) (RepJ.below HM13.out _ _ HR4.out)
          rw [sameJ_refl] at HSM
          refine HSM.mono ?_
          rintro e wE ⟨rfl, hb⟩
          have HBE := Lib.hid (HS13.out.trans (hb.mono HS13.out.size))
          clear hb HSM
          go_wp2_with fail
          go_ret
          exact ⟨rfl, HBE.out⟩
        · have HPR := print_long j2 _ wB (RepJ.below HMB.out _ _ HR2.out) hmi (HA.out.marks.below HBB.out) hri (by omega)
          clear hri hmi hlen
          go_wp2_with fail
          refine HPR.mono ?_
          rintro e wC ⟨rfl, hb⟩
          have HBC := Lib.hid (HBB.out.trans (hb.mono HBB.out.size))
          clear hb HPR
          go_wp2_with fail
          refine (num_errno 2 wC (HA.out.tab.below HBC.out)).mono ?_
          rintro e wD ⟨rfl, hb⟩
          have HBD := Lib.hid (HBC.out.trans (hb.mono HBC.out.size))
          clear hb
          go_wp2_with fail
          go_ret
          exact ⟨rfl, HBD.out⟩
      · obtain ⟨dd, xx, rfl⟩ := hev.iface hn2
        have hz := HZ.out hn2
        clear hev
        go_wp2_with (first | (refine wpList_alloc_blk rfl (some 9) rfl _ rfl _ zeroJs ?_; intro g9 wa9 hg9 hb9 hgr9; have HA9 := Lib.hid hgr9; have HG9 := Lib.hid hg9; clear hgr9 hg9; try go_frame) | (refine wpList_store_blk rfl none rfl _ (.tmp 9) _ rfl g9 0 [.int .i64 u0, .int .i64 u1, .string u2, .slice uA up uc, .slice uK uq ud] rfl rfl _ _ hb9 (by simp [zeros5]) sizeJson (by intro v hv; simp at hv; rcases hv with rfl | rfl | rfl | rfl | rfl <;> rfl) ?_; intro ws9 hc9 hgs9; rw [splice_all _ _ (by simp [zeros5])] at hc9; have HS9 := Lib.hid (mid_below HBA.out HA9.out HG9.out hgs9); have HM9 := Lib.hid (mid_below (Below.refl _ _) HA9.out HG9.out hgs9); obtain ⟨x90, x91, x92, x93, x94⟩ : ws9.cell? ⟨g9, 0, none⟩ = some (.int .i64 u0) ∧ ws9.cell? ⟨g9, 1, none⟩ = some (.int .i64 u1) ∧ ws9.cell? ⟨g9, 2, none⟩ = some (.string u2) ∧ ws9.cell? ⟨g9, 3, none⟩ = some (.slice uA up uc) ∧ ws9.cell? ⟨g9, 4, none⟩ = some (.slice uK uq ud) := ⟨hc9.cell 0, hc9.cell 1, hc9.cell 2, hc9.cell 3, hc9.cell 4⟩; have HK9 := Lib.hid hc9; clear hgs9 hc9; try go_frame))
        have HSM := same_any zeroJ zeroJ _ _ ws9 (by have := RepJ.below HM9.out _ _ HR2.out; rw [hz] at this; exact this) (RepS.toJ _ _ (RepS.zero ws9 (fun _ => True)))
        rw [sameJ_refl] at HSM
        refine HSM.mono ?_
        rintro e wB ⟨rfl, hb⟩
        have HBB := Lib.hid (HS9.out.trans (hb.mono HS9.out.size))
        clear hb HSM
        go_wp2_with fail
        go_ret
        exact ⟨rfl, HBB.out⟩
end Go.Proofs.YtblheibknpphkaaGreatDoor
