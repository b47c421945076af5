/- JsonLawS: merged. -/
import Derived.Test.YtblheibknpphkaaGreatDoorBa06
import Derived.Test.YtblheibknpphkaaGreatDoorBa07
import Derived.Test.YtblheibknpphkaaGreatDoorBa45
set_option linter.all false
namespace Go.Proofs.YtblheibknpphkaaGreatDoor
open Go Go.RowKit
theorem box_two (w : World) (cs ds : List Value) (t : TypeId) : Blk ((w.alloc (.cells cs.toArray t)).alloc (.cells ds.toArray t)) w.heap.size t cs ∧ Blk ((w.alloc (.cells cs.toArray t)).alloc (.cells ds.toArray t)) (w.heap.size + 1) t ds ∧ Below w.heap.size w ((w.alloc (.cells cs.toArray t)).alloc (.cells ds.toArray t)) := by
  refine ⟨(heapAtJ w cs t).grownN (World.grownBy_alloc _ _ none), ?_, (belowAlloc w _).alloc (belowAlloc w _).size _⟩
  have := heapAtJ (w.alloc (.cells cs.toArray t)) ds t
  rwa [show (w.alloc (.cells cs.toArray t)).heap.size = w.heap.size + 1 by simp] at this
set_option maxRecDepth 100000 in
set_option maxHeartbeats 8000000 in
theorem jsonSame_any (a b : J) (va vb : Value) (w : World) (ha : Ask5 w) (hra : RepJ w a va) (hrb : RepJ w b vb) : Calls Tryz.prog 8 #[va, vb] w fun e w' => e = .returned (.bool true) ∧ Below w.heap.size w w' := by
  obtain ⟨x0, x1, x2, xA, xp, xc, xK, xq, xd, rfl⟩ := hra.form
  obtain ⟨z0, z1, z2, zA, zp, zc, zK, zq, zd, rfl⟩ := hrb.form
  obtain ⟨B, hB⟩ : ∃ B, B = w.heap.size := ⟨_, rfl⟩
  obtain ⟨bx, bz, bb⟩ := box_two w [.int .i64 x0, .int .i64 x1, .string x2, .slice xA xp xc, .slice xK xq xd] [.int .i64 z0, .int .i64 z1, .string z2, .slice zA zp zc, .slice zK zq zd] 26
  obtain ⟨w0, hw0⟩ : ∃ W, W = (w.alloc (.cells #[.int .i64 x0, .int .i64 x1, .string x2, .slice xA xp xc, .slice xK xq xd] 26)).alloc (.cells #[.int .i64 z0, .int .i64 z1, .string z2, .slice zA zp zc, .slice zK zq zd] 26) := ⟨_, rfl⟩
  replace bx : Blk w0 B 26 [.int .i64 x0, .int .i64 x1, .string x2, .slice xA xp xc, .slice xK xq xd] := by rw [hw0, hB]; exact bx
  replace bz : Blk w0 (B + 1) 26 [.int .i64 z0, .int .i64 z1, .string z2, .slice zA zp zc, .slice zK zq zd] := by rw [hw0, hB]; exact bz
  replace bb : Below w.heap.size w w0 := by rw [hw0]; exact bb
  have HAL := Lib.hid (alive5_any w0 (ha.below bb))
  have HX := Lib.hid bx
  have HZ := Lib.hid bz
  have HB0 := Lib.hid bb
  have HW0 := Lib.hid hw0
  have HB := Lib.hid hB
  have HGA := Lib.hid (fun (W : World) (h : Below w.heap.size w W) => refGreat_any a _ W (RepJ.below h _ _ hra))
  have HGB := Lib.hid (fun (W : World) (h : Below w.heap.size w W) => refGreat_any b _ W (RepJ.below h _ _ hrb))
  have HS1 := Lib.hid (fun (W : World) (h : Below w.heap.size w W) => same_any a b _ _ W (RepJ.below h _ _ hra) (RepJ.below h _ _ hrb))
  have HS2 := Lib.hid (fun (W : World) (h : Below w.heap.size w W) => refSame_any a b _ _ W (RepJ.below h _ _ hra) (RepJ.below h _ _ hrb))
  have HS3 := Lib.hid (fun (W : World) (h : Below w.heap.size w W) => same_any a a _ _ W (RepJ.below h _ _ hra) (RepJ.below h _ _ hra))
  obtain ⟨ga, hga⟩ : ∃ r, r = (hgJ a 1000).1 := ⟨_, rfl⟩
  obtain ⟨gb, hgb⟩ : ∃ r, r = (hgJ b 1000).1 := ⟨_, rfl⟩
  obtain ⟨sm, hsm⟩ : ∃ r, r = sameJ a b := ⟨_, rfl⟩
  rw [← hga] at HGA
  rw [← hgb] at HGB
  rw [← hsm] at HS1 HS2
  rw [sameJ_refl] at HS3
  have esm : (sm == sm) = true := by simp
  clear ha hra hrb hB hw0 bx bz bb hga hgb hsm
  go_enter Tryz.func8, Tryz.ntmps8
  go_wp2_with fail
  rw [show (w.alloc (.cells #[.int .i64 x0, .int .i64 x1, .string x2, .slice xA xp xc, .slice xK xq xd] 26)).alloc (.cells #[.int .i64 z0, .int .i64 z1, .string z2, .slice zA zp zc, .slice zK zq zd] 26) = w0 from HW0.out.symm, show w.heap.size = B from HB.out.symm]
  refine HAL.out.mono ?_
  rintro e w1 ⟨rfl, hb⟩
  have HX1 := Lib.hid (HX.out.below hb HX.out.lt)
  have HZ1 := Lib.hid (HZ.out.below hb HZ.out.lt)
  have HB1 := Lib.hid (HB0.out.trans (hb.mono HB0.out.size))
  clear hb
  obtain ⟨f0, f1, f2, f3, f4⟩ : w1.cell? ⟨B, 0, none⟩ = some (.int .i64 x0) ∧ w1.cell? ⟨B, 1, none⟩ = some (.int .i64 x1) ∧ w1.cell? ⟨B, 2, none⟩ = some (.string x2) ∧ w1.cell? ⟨B, 3, none⟩ = some (.slice xA xp xc) ∧ w1.cell? ⟨B, 4, none⟩ = some (.slice xK xq xd) := ⟨(HX1.out).cell 0, (HX1.out).cell 1, (HX1.out).cell 2, (HX1.out).cell 3, (HX1.out).cell 4⟩
  go_wp2_with fail
  refine (HGA.out _ HB1.out).mono ?_
  rintro e w2 ⟨rfl, hb⟩
  have HX2 := Lib.hid (HX1.out.below hb HX1.out.lt)
  have HZ2 := Lib.hid (HZ1.out.below hb HZ1.out.lt)
  have HB2 := Lib.hid (HB1.out.trans (hb.mono HB1.out.size))
  clear hb f0 f1 f2 f3 f4
  cases ga with
  | true =>
    go_wp2_with fail
    go_ret
    exact ⟨rfl, HB2.out⟩
  | false =>
    obtain ⟨u0, u1, u2, u3, u4⟩ : w2.cell? ⟨B + 1, 0, none⟩ = some (.int .i64 z0) ∧ w2.cell? ⟨B + 1, 1, none⟩ = some (.int .i64 z1) ∧ w2.cell? ⟨B + 1, 2, none⟩ = some (.string z2) ∧ w2.cell? ⟨B + 1, 3, none⟩ = some (.slice zA zp zc) ∧ w2.cell? ⟨B + 1, 4, none⟩ = some (.slice zK zq zd) := ⟨(HZ2.out).cell 0, (HZ2.out).cell 1, (HZ2.out).cell 2, (HZ2.out).cell 3, (HZ2.out).cell 4⟩
    go_wp2_with fail
    refine (HGB.out _ HB2.out).mono ?_
    rintro e w3 ⟨rfl, hb⟩
    have HX3 := Lib.hid (HX2.out.below hb HX2.out.lt)
    have HZ3 := Lib.hid (HZ2.out.below hb HZ2.out.lt)
    have HB3 := Lib.hid (HB2.out.trans (hb.mono HB2.out.size))
    clear hb u0 u1 u2 u3 u4
    cases gb with
    | true =>
      go_wp2_with fail
      go_ret
      exact ⟨rfl, HB3.out⟩
    | false =>
      obtain ⟨y0, y1, y2, y3, y4⟩ : w3.cell? ⟨B, 0, none⟩ = some (.int .i64 x0) ∧ w3.cell? ⟨B, 1, none⟩ = some (.int .i64 x1) ∧ w3.cell? ⟨B, 2, none⟩ = some (.string x2) ∧ w3.cell? ⟨B, 3, none⟩ = some (.slice xA xp xc) ∧ w3.cell? ⟨B, 4, none⟩ = some (.slice xK xq xd) := ⟨(HX3.out).cell 0, (HX3.out).cell 1, (HX3.out).cell 2, (HX3.out).cell 3, (HX3.out).cell 4⟩
      obtain ⟨u0, u1, u2, u3, u4⟩ : w3.cell? ⟨B + 1, 0, none⟩ = some (.int .i64 z0) ∧ w3.cell? ⟨B + 1, 1, none⟩ = some (.int .i64 z1) ∧ w3.cell? ⟨B + 1, 2, none⟩ = some (.string z2) ∧ w3.cell? ⟨B + 1, 3, none⟩ = some (.slice zA zp zc) ∧ w3.cell? ⟨B + 1, 4, none⟩ = some (.slice zK zq zd) := ⟨(HZ3.out).cell 0, (HZ3.out).cell 1, (HZ3.out).cell 2, (HZ3.out).cell 3, (HZ3.out).cell 4⟩
      go_wp2_with fail
      go_region_held3 (fun w' => w'.cell? ⟨B, 0, none⟩ = some (.int .i64 x0) ∧ w'.cell? ⟨B, 1, none⟩ = some (.int .i64 x1) ∧ w'.cell? ⟨B, 2, none⟩ = some (.string x2) ∧ w'.cell? ⟨B, 3, none⟩ = some (.slice xA xp xc) ∧ w'.cell? ⟨B, 4, none⟩ = some (.slice xK xq xd) ∧ w'.cell? ⟨B + 1, 0, none⟩ = some (.int .i64 z0) ∧ w'.cell? ⟨B + 1, 1, none⟩ = some (.int .i64 z1) ∧ w'.cell? ⟨B + 1, 2, none⟩ = some (.string z2) ∧ w'.cell? ⟨B + 1, 3, none⟩ = some (.slice zA zp zc) ∧ w'.cell? ⟨B + 1, 4, none⟩ = some (.slice zK zq zd))
        (first | go_keep | exact ⟨((hb1.cell (lt_of_cell y0)).trans y0), ((hb1.cell (lt_of_cell y1)).trans y1), ((hb1.cell (lt_of_cell y2)).trans y2), ((hb1.cell (lt_of_cell y3)).trans y3), ((hb1.cell (lt_of_cell y4)).trans y4), ((hb1.cell (lt_of_cell u0)).trans u0), ((hb1.cell (lt_of_cell u1)).trans u1), ((hb1.cell (lt_of_cell u2)).trans u2), ((hb1.cell (lt_of_cell u3)).trans u3), ((hb1.cell (lt_of_cell u4)).trans u4)⟩ | exact ⟨((hb2.cell (lt_of_cell ((hb1.cell (lt_of_cell y0)).trans y0))).trans ((hb1.cell (lt_of_cell y0)).trans y0)), ((hb2.cell (lt_of_cell ((hb1.cell (lt_of_cell y1)).trans y1))).trans ((hb1.cell (lt_of_cell y1)).trans y1)), ((hb2.cell (lt_of_cell ((hb1.cell (lt_of_cell y2)).trans y2))).trans ((hb1.cell (lt_of_cell y2)).trans y2)), ((hb2.cell (lt_of_cell ((hb1.cell (lt_of_cell y3)).trans y3))).trans ((hb1.cell (lt_of_cell y3)).trans y3)), ((hb2.cell (lt_of_cell ((hb1.cell (lt_of_cell y4)).trans y4))).trans ((hb1.cell (lt_of_cell y4)).trans y4)), ((hb2.cell (lt_of_cell ((hb1.cell (lt_of_cell u0)).trans u0))).trans ((hb1.cell (lt_of_cell u0)).trans u0)), ((hb2.cell (lt_of_cell ((hb1.cell (lt_of_cell u1)).trans u1))).trans ((hb1.cell (lt_of_cell u1)).trans u1)), ((hb2.cell (lt_of_cell ((hb1.cell (lt_of_cell u2)).trans u2))).trans ((hb1.cell (lt_of_cell u2)).trans u2)), ((hb2.cell (lt_of_cell ((hb1.cell (lt_of_cell u3)).trans u3))).trans ((hb1.cell (lt_of_cell u3)).trans u3)), ((hb2.cell (lt_of_cell ((hb1.cell (lt_of_cell u4)).trans u4))).trans ((hb1.cell (lt_of_cell u4)).trans u4))⟩ | exact ⟨((hb3.cell (lt_of_cell ((hb2.cell (lt_of_cell ((hb1.cell (lt_of_cell y0)).trans y0))).trans ((hb1.cell (lt_of_cell y0)).trans y0)))).trans ((hb2.cell (lt_of_cell ((hb1.cell (lt_of_cell y0)).trans y0))).trans ((hb1.cell (lt_of_cell y0)).trans y0))), ((hb3.cell (lt_of_cell ((hb2.cell (lt_of_cell ((hb1.cell (lt_of_cell y1)).trans y1))).trans ((hb1.cell (lt_of_cell y1)).trans y1)))).trans ((hb2.cell (lt_of_cell ((hb1.cell (lt_of_cell y1)).trans y1))).trans ((hb1.cell (lt_of_cell y1)).trans y1))), ((hb3.cell (lt_of_cell ((hb2.cell (lt_of_cell ((hb1.cell (lt_of_cell y2)).trans y2))).trans ((hb1.cell (lt_of_cell y2)).trans y2)))).trans ((hb2.cell (lt_of_cell ((hb1.cell (lt_of_cell y2)).trans y2))).trans ((hb1.cell (lt_of_cell y2)).trans y2))), ((hb3.cell (lt_of_cell ((hb2.cell (lt_of_cell ((hb1.cell (lt_of_cell y3)).trans y3))).trans ((hb1.cell (lt_of_cell y3)).trans y3)))).trans ((hb2.cell (lt_of_cell ((hb1.cell (lt_of_cell y3)).trans y3))).trans ((hb1.cell (lt_of_cell y3)).trans y3))), ((hb3.cell (lt_of_cell ((hb2.cell (lt_of_cell ((hb1.cell (lt_of_cell y4)).trans y4))).trans ((hb1.cell (lt_of_cell y4)).trans y4)))).trans ((hb2.cell (lt_of_cell ((hb1.cell (lt_of_cell y4)).trans y4))).trans ((hb1.cell (lt_of_cell y4)).trans y4))), ((hb3.cell (lt_of_cell ((hb2.cell (lt_of_cell ((hb1.cell (lt_of_cell u0)).trans u0))).trans ((hb1.cell (lt_of_cell u0)).trans u0)))).trans ((hb2.cell (lt_of_cell ((hb1.cell (lt_of_cell u0)).trans u0))).trans ((hb1.cell (lt_of_cell u0)).trans u0))), ((hb3.cell (lt_of_cell ((hb2.cell (lt_of_cell ((hb1.cell (lt_of_cell u1)).trans u1))).trans ((hb1.cell (lt_of_cell u1)).trans u1)))).trans ((hb2.cell (lt_of_cell ((hb1.cell (lt_of_cell u1)).trans u1))).trans ((hb1.cell (lt_of_cell u1)).trans u1))), ((hb3.cell (lt_of_cell ((hb2.cell (lt_of_cell ((hb1.cell (lt_of_cell u2)).trans u2))).trans ((hb1.cell (lt_of_cell u2)).trans u2)))).trans ((hb2.cell (lt_of_cell ((hb1.cell (lt_of_cell u2)).trans u2))).trans ((hb1.cell (lt_of_cell u2)).trans u2))), ((hb3.cell (lt_of_cell ((hb2.cell (lt_of_cell ((hb1.cell (lt_of_cell u3)).trans u3))).trans ((hb1.cell (lt_of_cell u3)).trans u3)))).trans ((hb2.cell (lt_of_cell ((hb1.cell (lt_of_cell u3)).trans u3))).trans ((hb1.cell (lt_of_cell u3)).trans u3))), ((hb3.cell (lt_of_cell ((hb2.cell (lt_of_cell ((hb1.cell (lt_of_cell u4)).trans u4))).trans ((hb1.cell (lt_of_cell u4)).trans u4)))).trans ((hb2.cell (lt_of_cell ((hb1.cell (lt_of_cell u4)).trans u4))).trans ((hb1.cell (lt_of_cell u4)).trans u4)))⟩)
        (first | (go_at_call 21; (with_reducible refine (HS1.out _ HB3.out.drew).mono ?_); rintro e w4 ⟨rfl, hb1⟩) | (go_at_call 15; (with_reducible refine (HS2.out _ (HB3.out.drew.trans (hb1.mono HB3.out.drew.size))).mono ?_); rintro e w5 ⟨rfl, hb2⟩) | (go_at_call 21; (with_reducible refine (HS3.out _ ((HB3.out.drew.trans (hb1.mono HB3.out.drew.size)).trans (hb2.mono (HB3.out.drew.trans (hb1.mono HB3.out.drew.size)).size))).mono ?_); rintro e w6 ⟨rfl, hb3⟩))
      have HB6 := Lib.hid (((HB3.out.drew.trans (hb1.mono HB3.out.drew.size)).trans (hb2.mono (HB3.out.drew.trans (hb1.mono HB3.out.drew.size)).size)).trans (hb3.mono ((HB3.out.drew.trans (hb1.mono HB3.out.drew.size)).trans (hb2.mono (HB3.out.drew.trans (hb1.mono HB3.out.drew.size)).size)).size))
      clear hb1 hb2 hb3
      go_wp2_with fail
      go_ret
      exact ⟨rfl, HB6.out⟩
end Go.Proofs.YtblheibknpphkaaGreatDoor
