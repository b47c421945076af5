/- JsonLawP: merged. -/
import Derived.Test.YtblheibknpphkaaGreatDoorBa45
import Derived.Test.YtblheibknpphkaaGreatDoorBa59
set_option linter.all false
namespace Go.Proofs.YtblheibknpphkaaGreatDoor
open Go Go.RowKit
theorem refParse_str (s : ByteArray) (W : World) (hs : s.size ≤ 5000) : Calls Tryz.prog 12 #[.string s] W fun e w' =>
    ∃ x0 x1 x2 xA xp xc xK xq xd, e = .returned (.tuple #[.agg #[.int .i64 x0, .int .i64 x1, .string x2, .slice xA xp xc, .slice xK xq xd], .int .i64 (parsedL (strL s)).2.1, .int .i64 (parsedL (strL s)).2.2]) ∧ RepJ w' (parsedL (strL s)).1 (.agg #[.int .i64 x0, .int .i64 x1, .string x2, .slice xA xp xc, .slice xK xq xd]) ∧ Below W.heap.size W w' := by
  rw [parsedL_is]
  refine (refParse_any s W (by omega)).mono ?_
  rintro e w' ⟨v, rfl, hr, hb⟩
  have hj := RepS.toJ _ _ hr
  obtain ⟨x0, x1, x2, A, p, c, K, q, d, rfl⟩ := hj.form
  exact ⟨_, _, _, _, _, _, _, _, _, rfl, hj, hb⟩
set_option maxRecDepth 100000 in
set_option maxHeartbeats 4000000 in
theorem jsonParses_any (s : ByteArray) (w : World) (ha : Ask5 w) (hs : s.size ≤ 9223372036854775807) : Calls Tryz.prog 3 #[.string s] w fun e w' => e = .returned (.bool true) ∧ Below w.heap.size w w' := by
  have HA := Lib.hid ha
  have HAL := Lib.hid (alive5_any w ha)
  clear ha
  by_cases h5 : s.size ≤ 5000
  · have hI : ¬ (5000 : Int) < (s.size : Int) := by omega
    have hconv := fun (W : World) => Lib.run_convert_string_bytes (P := Tryz.prog) W 9 31 5 s Tryz.underlying9 Tryz.underlying31 Tryz.underlying5
    have HP := Lib.hid (fun (W : World) (c : Nat) (h : Ask5 W) => parse_str s c W h h5)
    have HQ := Lib.hid (fun (W : World) => refParse_str s W h5)
    obtain ⟨r, hr⟩ : ∃ r, r = parsedL (strL s) := ⟨_, rfl⟩
    rw [← hr] at HP HQ
    obtain ⟨j, n, pos⟩ := r
    have HSM := Lib.hid (fun (va vb : Value) (W : World) (h1 : RepJ W j va) (h2 : RepJ W j vb) => refSame_any j j va vb W h1 h2)
    rw [sameJ_refl] at HSM
    have ebn : (n == n) = true := by simp
    have ebp : (pos == pos) = true := by simp
    clear hr h5
    go_enter Tryz.func3, Tryz.ntmps3
    go_wp2_with fail
    refine HAL.out.mono ?_
    rintro e w1 ⟨rfl, hb⟩
    have HB1 := Lib.hid hb
    clear hb
    go_wp2_with fail
    refine (HP.out _ _ (HA.out.below HB1.out)).mono ?_
    rintro e w2 ⟨x0, x1, x2, xA, xp, xc, xK, xq, xd, ev, rfl, hrj, hev, hb⟩
    have HR1 := Lib.hid hrj
    have HE := Lib.hid hev
    have HB2 := Lib.hid (HB1.out.trans (hb.mono HB1.out.size))
    clear hrj hev hb
    go_wp2_with (first | (refine wpList_alloc_blk rfl (some 3) rfl _ rfl _ zeroJs ?_; intro g3 wa3 hg3 hb3 hgr3; have HA3 := Lib.hid hgr3; have HG3 := Lib.hid hg3; clear hgr3 hg3; try go_frame) | (refine wpList_store_blk rfl none rfl _ (.tmp 3) _ rfl g3 0 [.int .i64 x0, .int .i64 x1, .string x2, .slice xA xp xc, .slice xK xq xd] rfl rfl _ _ hb3 (by simp [zeros5]) sizeJson (by intro v hv; simp at hv; rcases hv with rfl | rfl | rfl | rfl | rfl <;> rfl) ?_; intro ws3 hc3 hgs3; rw [splice_all _ _ (by simp [zeros5])] at hc3; have HS3 := Lib.hid (mid_below HB2.out HA3.out HG3.out hgs3); have HM3 := Lib.hid (mid_below (Below.refl _ _) HA3.out HG3.out hgs3); have HK3 := Lib.hid hc3; clear hgs3 hc3; try go_frame))
    refine (HQ.out _).mono ?_
    rintro e w3 ⟨z0, z1, z2, zA, zp, zc, zK, zq, zd, rfl, hrj, hb⟩
    have HR2 := Lib.hid hrj
    have HB3 := Lib.hid (HS3.out.trans (hb.mono HS3.out.size))
    have HM3' := Lib.hid (HM3.out.trans (hb.mono HM3.out.size))
    have HK3p := Lib.hid (HK3.out.below hb HK3.out.lt)
    clear hrj hb
    go_wp2_with (first | (refine wpList_alloc_blk rfl (some 5) rfl _ rfl _ zeroJs ?_; intro g5 wa5 hg5 hb5 hgr5; have HA5 := Lib.hid hgr5; have HG5 := Lib.hid hg5; clear hgr5 hg5; try go_frame) | (refine wpList_store_blk rfl none rfl _ (.tmp 5) _ rfl g5 0 [.int .i64 z0, .int .i64 z1, .string z2, .slice zA zp zc, .slice zK zq zd] rfl rfl _ _ hb5 (by simp [zeros5]) sizeJson (by intro v hv; simp at hv; rcases hv with rfl | rfl | rfl | rfl | rfl <;> rfl) ?_; intro ws5 hc5 hgs5; rw [splice_all _ _ (by simp [zeros5])] at hc5; have HS5 := Lib.hid (mid_below HB3.out HA5.out HG5.out hgs5); have HM5 := Lib.hid (mid_below (Below.refl _ _) HA5.out HG5.out hgs5); have HK5 := Lib.hid hc5; clear hgs5 hc5; try go_frame))
    have HM35 := Lib.hid (HM3'.out.trans (HM5.out.mono HM3'.out.size))
    refine (numJ (HE.out.below HM35.out) (HA.out.tab.below HS5.out)).mono ?_
    rintro e w5 ⟨rfl, hb5⟩
    have HB5 := Lib.hid (HS5.out.trans (hb5.mono HS5.out.size))
    have HM6 := Lib.hid (HM35.out.trans (hb5.mono HM35.out.size))
    have HM7 := Lib.hid (HM5.out.trans (hb5.mono HM5.out.size))
    have HK5p := Lib.hid (HK5.out.below hb5 HK5.out.lt)
    clear hb5
    go_wp2_with fail
    refine (posJ (HE.out.below HM6.out) (HA.out.tab.below HB5.out)).mono ?_
    rintro e w6 ⟨rfl, hb6⟩
    have HB6 := Lib.hid (HB5.out.trans (hb6.mono HB5.out.size))
    have HM8 := Lib.hid (HM6.out.trans (hb6.mono HM6.out.size))
    have HM9 := Lib.hid (HM7.out.trans (hb6.mono HM7.out.size))
    have hq3 := HK3p.out.below (HM9.out) HK3p.out.lt; obtain ⟨y30, y31, y32, y33, y34⟩ : w6.cell? ⟨g3, 0, none⟩ = some (.int .i64 x0) ∧ w6.cell? ⟨g3, 1, none⟩ = some (.int .i64 x1) ∧ w6.cell? ⟨g3, 2, none⟩ = some (.string x2) ∧ w6.cell? ⟨g3, 3, none⟩ = some (.slice xA xp xc) ∧ w6.cell? ⟨g3, 4, none⟩ = some (.slice xK xq xd) := ⟨hq3.cell 0, hq3.cell 1, hq3.cell 2, hq3.cell 3, hq3.cell 4⟩; clear hq3
    have hq5 := HK5p.out.below hb6 HK5p.out.lt; obtain ⟨y50, y51, y52, y53, y54⟩ : w6.cell? ⟨g5, 0, none⟩ = some (.int .i64 z0) ∧ w6.cell? ⟨g5, 1, none⟩ = some (.int .i64 z1) ∧ w6.cell? ⟨g5, 2, none⟩ = some (.string z2) ∧ w6.cell? ⟨g5, 3, none⟩ = some (.slice zA zp zc) ∧ w6.cell? ⟨g5, 4, none⟩ = some (.slice zK zq zd) := ⟨hq5.cell 0, hq5.cell 1, hq5.cell 2, hq5.cell 3, hq5.cell 4⟩; clear hq5
    clear hb6
    go_wp2_with fail
    refine (HSM.out _ _ _ (RepJ.below HM8.out _ _ HR1.out) (RepJ.below HM9.out _ _ HR2.out)).mono ?_
    rintro e w7 ⟨rfl, hb7⟩
    have HB7 := Lib.hid (HB6.out.trans (hb7.mono HB6.out.size))
    clear hb7
    go_wp2_with fail
    go_ret
    exact ⟨rfl, HB7.out⟩
  · have hI : (5000 : Int) < (s.size : Int) := by omega
    go_enter Tryz.func3, Tryz.ntmps3
    go_wp2_with fail
    refine HAL.out.mono ?_
    rintro e w1 ⟨rfl, hb⟩
    have HB1 := Lib.hid hb
    clear hb
    go_wp2_with fail
    go_ret
    exact ⟨rfl, HB1.out⟩
end Go.Proofs.YtblheibknpphkaaGreatDoor
