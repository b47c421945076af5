/- PolWr7, PolWr8, PolWr9: merged. -/
import Derived.Test.YtcjfealalokjaaaGreatDoorPa16
set_option linter.all false
namespace Go.Proofs.YtcjfealalokjaaaGreatDoor
open Go Go.RowKit
set_option maxRecDepth 100000 in
set_option maxHeartbeats 2000000 in
theorem expr_or0 {B b f : Nat} {n p : Int} {s : ByteArray} {x y : Ex} {l : List Ex}  (hx : EAsk B b f x) (hy : EAsk B b f y) (w : World) (acc : List Int) (v : Value) (h : WrI B b acc w) (hv : RepE w (fun x => x < B) (.mk 8 s n (x :: y :: l) p) v)
    (hlen : acc.length + (textF f x 1 ++ (32 :: (strL ⟨#[111, 114]⟩ ++ [32])) ++ textF f y 2).length ≤ 140737488355328) :
    Calls Tryz.prog 122 #[.pointer (some ⟨b, 0, none⟩), v, .int .i64 0] w (WTell B b acc (textF f x 1 ++ (32 :: (strL ⟨#[111, 114]⟩ ++ [32])) ++ textF f y 2) w) := by
  have hv0 := hv
  rw [RepE] at hv
  obtain ⟨A, cc, rfl, _, _, _⟩ := hv
  obtain ⟨L, hL⟩ : ∃ L, L = (x :: y :: l).length := ⟨_, rfl⟩
  rw [← hL] at hv0 ⊢
  have hbl := wbl_lt h.bld
  obtain ⟨w1, hw1⟩ : ∃ W, W = w.alloc (.cells #[.int .i64 8, .string s, .int .i64 n, .slice A L cc, .int .i64 p] 42) := ⟨_, rfl⟩
  have gw1 : w.grownBy w1 none := by rw [hw1]; exact World.grownBy_alloc _ _ none
  have hE1 : Blk w1 w.heap.size 42 [.int .i64 8, .string s, .int .i64 n, .slice A L cc, .int .i64 p] := by rw [hw1]; exact heap_alloc_new w _
  have HI1 : Hid (WrI B b acc w1) := Lib.hid (by rw [hw1]; exact h.alloc _)
  have HK1 := Lib.hid (show Below B w w1 ∧ KeepW b w w1 from ⟨by rw [hw1]; exact (belowAlloc w _).mono h.le, KeepW.grownN gw1⟩)
  have HE1 := Lib.hid hE1
  have HNE : Hid (w.heap.size ≠ b) := Lib.hid (by omega)
  have HW1 := Lib.hid hw1
  have HO : Hid (Calls Tryz.prog 148 #[.pointer (some ⟨b, 0, none⟩), .agg #[.int .i64 8, .string s, .int .i64 n, .slice A (x :: y :: l).length cc, .int .i64 p], .int .i64 0, .string ⟨#[111, 114]⟩, .int .i64 1] w1 (WTell B b acc (textF f x 1 ++ (32 :: (strL ⟨#[111, 114]⟩ ++ [32])) ++ textF f y 2) w1)) := Lib.hid (two_of hx hy HI1.out (RepE.keeps (S := fun k => k < B) (T := fun k => k < B) (Keeps.grown gw1 (fun b _ e => by cases e)) (fun _ h _ => h) _ _ (hL ▸ hv0)) 0 1 (by decide) (by decide) (said := ⟨#[111, 114]⟩) hlen)
  rw [← hL] at HO
  obtain ⟨X, hX⟩ : ∃ X, X = (textF f x 1 ++ (32 :: (strL ⟨#[111, 114]⟩ ++ [32])) ++ textF f y 2) := ⟨_, rfl⟩
  rw [← hX] at HO ⊢
  obtain ⟨c0, c1, c2, c3, c4⟩ := cells5 hE1
  have hb1 := belowAlloc w (.cells #[.int .i64 8, .string s, .int .i64 n, .slice A L cc, .int .i64 p] 42)
  clear h hlen hw1 gw1 hbl hE1 hv0 hx hy hL hX hb1 
  go_enter Tryz.func122, Tryz.ntmps122
  go_wp2_with fail
  rw [← HW1.out]
  (with_reducible refine HO.out.mono ?_)
  rintro e w3 ht3
  have HT3 := Lib.hid (ht3.from HK1.out.1 HK1.out.2)
  obtain ⟨rfl, _⟩ := ht3
  go_wp2
  go_end0
  exact HT3.out
set_option maxRecDepth 100000 in
set_option maxHeartbeats 2000000 in
theorem expr_and0 {B b f : Nat} {n p : Int} {s : ByteArray} {x y : Ex} {l : List Ex}  (hx : EAsk B b f x) (hy : EAsk B b f y) (w : World) (acc : List Int) (v : Value) (h : WrI B b acc w) (hv : RepE w (fun x => x < B) (.mk 7 s n (x :: y :: l) p) v)
    (hlen : acc.length + (textF f x 2 ++ (32 :: (strL ⟨#[97, 110, 100]⟩ ++ [32])) ++ textF f y 3).length ≤ 140737488355328) :
    Calls Tryz.prog 122 #[.pointer (some ⟨b, 0, none⟩), v, .int .i64 0] w (WTell B b acc (textF f x 2 ++ (32 :: (strL ⟨#[97, 110, 100]⟩ ++ [32])) ++ textF f y 3) w) := by
  have hv0 := hv
  rw [RepE] at hv
  obtain ⟨A, cc, rfl, _, _, _⟩ := hv
  obtain ⟨L, hL⟩ : ∃ L, L = (x :: y :: l).length := ⟨_, rfl⟩
  rw [← hL] at hv0 ⊢
  have hbl := wbl_lt h.bld
  obtain ⟨w1, hw1⟩ : ∃ W, W = w.alloc (.cells #[.int .i64 7, .string s, .int .i64 n, .slice A L cc, .int .i64 p] 42) := ⟨_, rfl⟩
  have gw1 : w.grownBy w1 none := by rw [hw1]; exact World.grownBy_alloc _ _ none
  have hE1 : Blk w1 w.heap.size 42 [.int .i64 7, .string s, .int .i64 n, .slice A L cc, .int .i64 p] := by rw [hw1]; exact heap_alloc_new w _
  have HI1 : Hid (WrI B b acc w1) := Lib.hid (by rw [hw1]; exact h.alloc _)
  have HK1 := Lib.hid (show Below B w w1 ∧ KeepW b w w1 from ⟨by rw [hw1]; exact (belowAlloc w _).mono h.le, KeepW.grownN gw1⟩)
  have HE1 := Lib.hid hE1
  have HNE : Hid (w.heap.size ≠ b) := Lib.hid (by omega)
  have HW1 := Lib.hid hw1
  have HO : Hid (Calls Tryz.prog 148 #[.pointer (some ⟨b, 0, none⟩), .agg #[.int .i64 7, .string s, .int .i64 n, .slice A (x :: y :: l).length cc, .int .i64 p], .int .i64 1, .string ⟨#[97, 110, 100]⟩, .int .i64 2] w1 (WTell B b acc (textF f x 2 ++ (32 :: (strL ⟨#[97, 110, 100]⟩ ++ [32])) ++ textF f y 3) w1)) := Lib.hid (two_of hx hy HI1.out (RepE.keeps (S := fun k => k < B) (T := fun k => k < B) (Keeps.grown gw1 (fun b _ e => by cases e)) (fun _ h _ => h) _ _ (hL ▸ hv0)) 1 2 (by decide) (by decide) (said := ⟨#[97, 110, 100]⟩) hlen)
  rw [← hL] at HO
  obtain ⟨X, hX⟩ : ∃ X, X = (textF f x 2 ++ (32 :: (strL ⟨#[97, 110, 100]⟩ ++ [32])) ++ textF f y 3) := ⟨_, rfl⟩
  rw [← hX] at HO ⊢
  obtain ⟨c0, c1, c2, c3, c4⟩ := cells5 hE1
  have hb1 := belowAlloc w (.cells #[.int .i64 7, .string s, .int .i64 n, .slice A L cc, .int .i64 p] 42)
  clear h hlen hw1 gw1 hbl hE1 hv0 hx hy hL hX hb1 
  go_enter Tryz.func122, Tryz.ntmps122
  go_wp2_with fail
  rw [← HW1.out]
  (with_reducible refine HO.out.mono ?_)
  rintro e w3 ht3
  have HT3 := Lib.hid (ht3.from HK1.out.1 HK1.out.2)
  obtain ⟨rfl, _⟩ := ht3
  go_wp2
  go_end0
  exact HT3.out
set_option maxRecDepth 100000 in
set_option maxHeartbeats 2000000 in
theorem expr_and1 {B b f : Nat} {n p : Int} {s : ByteArray} {x y : Ex} {l : List Ex}  (hx : EAsk B b f x) (hy : EAsk B b f y) (w : World) (acc : List Int) (v : Value) (h : WrI B b acc w) (hv : RepE w (fun x => x < B) (.mk 7 s n (x :: y :: l) p) v)
    (hlen : acc.length + (textF f x 2 ++ (32 :: (strL ⟨#[97, 110, 100]⟩ ++ [32])) ++ textF f y 3).length ≤ 140737488355328) :
    Calls Tryz.prog 122 #[.pointer (some ⟨b, 0, none⟩), v, .int .i64 1] w (WTell B b acc (textF f x 2 ++ (32 :: (strL ⟨#[97, 110, 100]⟩ ++ [32])) ++ textF f y 3) w) := by
  have hv0 := hv
  rw [RepE] at hv
  obtain ⟨A, cc, rfl, _, _, _⟩ := hv
  obtain ⟨L, hL⟩ : ∃ L, L = (x :: y :: l).length := ⟨_, rfl⟩
  rw [← hL] at hv0 ⊢
  have hbl := wbl_lt h.bld
  obtain ⟨w1, hw1⟩ : ∃ W, W = w.alloc (.cells #[.int .i64 7, .string s, .int .i64 n, .slice A L cc, .int .i64 p] 42) := ⟨_, rfl⟩
  have gw1 : w.grownBy w1 none := by rw [hw1]; exact World.grownBy_alloc _ _ none
  have hE1 : Blk w1 w.heap.size 42 [.int .i64 7, .string s, .int .i64 n, .slice A L cc, .int .i64 p] := by rw [hw1]; exact heap_alloc_new w _
  have HI1 : Hid (WrI B b acc w1) := Lib.hid (by rw [hw1]; exact h.alloc _)
  have HK1 := Lib.hid (show Below B w w1 ∧ KeepW b w w1 from ⟨by rw [hw1]; exact (belowAlloc w _).mono h.le, KeepW.grownN gw1⟩)
  have HE1 := Lib.hid hE1
  have HNE : Hid (w.heap.size ≠ b) := Lib.hid (by omega)
  have HW1 := Lib.hid hw1
  have HO : Hid (Calls Tryz.prog 148 #[.pointer (some ⟨b, 0, none⟩), .agg #[.int .i64 7, .string s, .int .i64 n, .slice A (x :: y :: l).length cc, .int .i64 p], .int .i64 1, .string ⟨#[97, 110, 100]⟩, .int .i64 2] w1 (WTell B b acc (textF f x 2 ++ (32 :: (strL ⟨#[97, 110, 100]⟩ ++ [32])) ++ textF f y 3) w1)) := Lib.hid (two_of hx hy HI1.out (RepE.keeps (S := fun k => k < B) (T := fun k => k < B) (Keeps.grown gw1 (fun b _ e => by cases e)) (fun _ h _ => h) _ _ (hL ▸ hv0)) 1 2 (by decide) (by decide) (said := ⟨#[97, 110, 100]⟩) hlen)
  rw [← hL] at HO
  obtain ⟨X, hX⟩ : ∃ X, X = (textF f x 2 ++ (32 :: (strL ⟨#[97, 110, 100]⟩ ++ [32])) ++ textF f y 3) := ⟨_, rfl⟩
  rw [← hX] at HO ⊢
  obtain ⟨c0, c1, c2, c3, c4⟩ := cells5 hE1
  have hb1 := belowAlloc w (.cells #[.int .i64 7, .string s, .int .i64 n, .slice A L cc, .int .i64 p] 42)
  clear h hlen hw1 gw1 hbl hE1 hv0 hx hy hL hX hb1 
  go_enter Tryz.func122, Tryz.ntmps122
  go_wp2_with fail
  rw [← HW1.out]
  (with_reducible refine HO.out.mono ?_)
  rintro e w3 ht3
  have HT3 := Lib.hid (ht3.from HK1.out.1 HK1.out.2)
  obtain ⟨rfl, _⟩ := ht3
  go_wp2
  go_end0
  exact HT3.out
set_option maxRecDepth 100000 in
set_option maxHeartbeats 2000000 in
theorem expr_not0 {B b f : Nat} {n p : Int} {s : ByteArray} {x : Ex} {l : List Ex} (hx : EAsk B b f x) (w : World) (acc : List Int) (v : Value) (h : WrI B b acc w) (hv : RepE w (fun k => k < B) (.mk 6 s n (x :: l) p) v)
    (hlen : acc.length + ([110, 111, 116, 32] ++ textF f x 3).length ≤ 140737488355328) :
    Calls Tryz.prog 122 #[.pointer (some ⟨b, 0, none⟩), v, .int .i64 0] w (WTell B b acc ([110, 111, 116, 32] ++ textF f x 3) w) := by
  have hv0 := hv
  rw [RepE] at hv
  obtain ⟨A, cc, rfl, _, _, hcs⟩ := hv
  obtain ⟨g, o, rfl, hgB, hgl, hrep⟩ := hcs (by simp)
  rw [RepEs] at hrep
  obtain ⟨⟨vx, hrx, hfx⟩, _⟩ := hrep
  obtain ⟨x0, x1, x2, X, xn, xc, x4, rfl⟩ := hrx.form
  obtain ⟨a0, a1, a2, a3, a4, e, m0, m1, m2, m3, m4⟩ := hfx
  simp only [Value.agg.injEq, Array.mk.injEq, List.cons.injEq, and_true] at e
  obtain ⟨rfl, rfl, rfl, rfl, rfl⟩ := e
  obtain ⟨L, hL⟩ : ∃ L, L = (x :: l).length := ⟨_, rfl⟩
  have hL1 : 1 ≤ L := by rw [hL]; simp
  rw [← hL] at hv0 ⊢
  simp only [List.length_append, List.length_cons, List.length_nil] at hlen
  have hbl := wbl_lt h.bld
  obtain ⟨w1, hw1⟩ : ∃ W, W = w.alloc (.cells #[.int .i64 6, .string s, .int .i64 n, .slice (some ⟨g, o, none⟩) L cc, .int .i64 p] 42) := ⟨_, rfl⟩
  have gw1 : w.grownBy w1 none := by rw [hw1]; exact World.grownBy_alloc _ _ none
  have hE1 : Blk w1 w.heap.size 42 [.int .i64 6, .string s, .int .i64 n, .slice (some ⟨g, o, none⟩) L cc, .int .i64 p] := by rw [hw1]; exact heap_alloc_new w _
  have HI1 : Hid (WrI B b acc w1) := Lib.hid (by rw [hw1]; exact h.alloc _)
  have HK1 := Lib.hid (show Below B w w1 ∧ KeepW b w w1 from ⟨by rw [hw1]; exact (belowAlloc w _).mono h.le, KeepW.grownN gw1⟩)
  have HE1 := Lib.hid hE1
  have HNE : Hid (w.heap.size ≠ b) := Lib.hid (by omega)
  have HW1 := Lib.hid hw1
  have HX1 := Lib.hid (RepE.keeps (S := fun k => k < B) (T := fun k => k < B) (Keeps.grown gw1 (fun b _ e => by cases e)) (fun _ h _ => h) _ _ hrx)
  have HCY : Hid (w1.cell? ⟨g, o, none⟩ = some (.int .i64 x0) ∧ w1.cell? ⟨g, o + 1, none⟩ = some (.string x1) ∧ w1.cell? ⟨g, o + 2, none⟩ = some (.int .i64 x2) ∧ w1.cell? ⟨g, o + 3, none⟩ = some (.slice X xn xc) ∧ w1.cell? ⟨g, o + 4, none⟩ = some (.int .i64 x4)) := Lib.hid (by
    have e : ∀ x, w1.cell? ⟨g, x, none⟩ = w.cell? ⟨g, x, none⟩ := fun x => by simp [World.cell?, gw1.block g hgl (fun e => by cases e)]
    rw [e, e, e, e, e]; exact ⟨m0, m1, m2, m3, m4⟩)
  have HHX := Lib.hid hx
  have HGB := Lib.hid hgB
  have HLE := Lib.hid hlen
  obtain ⟨c0, c1, c2, c3, c4⟩ := cells5 hE1
  have hb1 := belowAlloc w (.cells #[.int .i64 6, .string s, .int .i64 n, .slice (some ⟨g, o, none⟩) L cc, .int .i64 p] 42)
  have hL0 : (0 : Int) < (L : Int) := by omega
  have HP1 : Hid (Calls Tryz.prog 67 #[.pointer (some ⟨b, 0, none⟩), .slice (some ⟨w1.heap.size, 0, none⟩) 2 2] (w1.alloc (.cells #[.string ⟨#[110, 111, 116]⟩, .string ⟨#[32]⟩] 9)) (WTell B b acc [110, 111, 116, 32] w1)) := Lib.hid (put_new [⟨#[110, 111, 116]⟩, ⟨#[32]⟩] HI1.out (by simp) (by have := HLE.out; show _ + 4 ≤ _; omega) 2)
  rw [show w1.heap.size = w.heap.size + 1 from by rw [hw1]; simp] at HP1
  clear h hlen hw1 gw1 hbl hE1 hv0 hx hL hb1 hrx m0 m1 m2 m3 m4 hgB hgl hcs
  go_enter Tryz.func122, Tryz.ntmps122
  go_wp2_with fail
  rw [← HW1.out]
  (with_reducible refine HP1.out.mono ?_)
  rintro e w2 ht2
  have HT2 := Lib.hid ht2
  obtain ⟨rfl, _⟩ := ht2
  have HI2 := Lib.hid (HI1.out.tell HT2.out)
  have hE2 := HT2.out.2.2.2.2 _ _ _ HNE.out (by decide) HE1.out
  have q3 := hE2.cell 3
  have hb2 := HT2.out.2.2.1
  obtain ⟨m0, m1, m2, m3, m4⟩ := HCY.out
  have r0 := (hb2.cell (p := ⟨g, o, none⟩) HGB.out).trans m0
  have r1 := (hb2.cell (p := ⟨g, o + 1, none⟩) HGB.out).trans m1
  have r2 := (hb2.cell (p := ⟨g, o + 2, none⟩) HGB.out).trans m2
  have r3 := (hb2.cell (p := ⟨g, o + 3, none⟩) HGB.out).trans m3
  have r4 := (hb2.cell (p := ⟨g, o + 4, none⟩) HGB.out).trans m4
  have HY : Hid (Calls Tryz.prog 122 #[.pointer (some ⟨b, 0, none⟩), .agg #[.int .i64 x0, .string x1, .int .i64 x2, .slice X xn xc, .int .i64 x4], .int .i64 2] w2 (WTell B b (acc ++ [110, 111, 116, 32]) (textF f x 3) w2)) := Lib.hid (HHX.out 2 w2 _ _ (by decide) HI2.out (RepE.wtell HT2.out HX1.out) (by
    have h1 := HLE.out
    show _ + (textF f x 3).length ≤ _
    simp only [List.length_append, List.length_cons, List.length_nil]
    omega))
  clear m0 m1 m2 m3 m4 hE2 hb2
  go_wp2_with fail
  (with_reducible refine HY.out.mono ?_)
  rintro e w3 ht3
  have HT3 := Lib.hid ((HT2.out.seq ht3).from HK1.out.1 HK1.out.2)
  obtain ⟨rfl, _⟩ := ht3
  go_wp2
  go_end0
  exact HT3.out
set_option maxRecDepth 100000 in
set_option maxHeartbeats 2000000 in
theorem expr_not1 {B b f : Nat} {n p : Int} {s : ByteArray} {x : Ex} {l : List Ex} (hx : EAsk B b f x) (w : World) (acc : List Int) (v : Value) (h : WrI B b acc w) (hv : RepE w (fun k => k < B) (.mk 6 s n (x :: l) p) v)
    (hlen : acc.length + ([110, 111, 116, 32] ++ textF f x 3).length ≤ 140737488355328) :
    Calls Tryz.prog 122 #[.pointer (some ⟨b, 0, none⟩), v, .int .i64 1] w (WTell B b acc ([110, 111, 116, 32] ++ textF f x 3) w) := by
  have hv0 := hv
  rw [RepE] at hv
  obtain ⟨A, cc, rfl, _, _, hcs⟩ := hv
  obtain ⟨g, o, rfl, hgB, hgl, hrep⟩ := hcs (by simp)
  rw [RepEs] at hrep
  obtain ⟨⟨vx, hrx, hfx⟩, _⟩ := hrep
  obtain ⟨x0, x1, x2, X, xn, xc, x4, rfl⟩ := hrx.form
  obtain ⟨a0, a1, a2, a3, a4, e, m0, m1, m2, m3, m4⟩ := hfx
  simp only [Value.agg.injEq, Array.mk.injEq, List.cons.injEq, and_true] at e
  obtain ⟨rfl, rfl, rfl, rfl, rfl⟩ := e
  obtain ⟨L, hL⟩ : ∃ L, L = (x :: l).length := ⟨_, rfl⟩
  have hL1 : 1 ≤ L := by rw [hL]; simp
  rw [← hL] at hv0 ⊢
  simp only [List.length_append, List.length_cons, List.length_nil] at hlen
  have hbl := wbl_lt h.bld
  obtain ⟨w1, hw1⟩ : ∃ W, W = w.alloc (.cells #[.int .i64 6, .string s, .int .i64 n, .slice (some ⟨g, o, none⟩) L cc, .int .i64 p] 42) := ⟨_, rfl⟩
  have gw1 : w.grownBy w1 none := by rw [hw1]; exact World.grownBy_alloc _ _ none
  have hE1 : Blk w1 w.heap.size 42 [.int .i64 6, .string s, .int .i64 n, .slice (some ⟨g, o, none⟩) L cc, .int .i64 p] := by rw [hw1]; exact heap_alloc_new w _
  have HI1 : Hid (WrI B b acc w1) := Lib.hid (by rw [hw1]; exact h.alloc _)
  have HK1 := Lib.hid (show Below B w w1 ∧ KeepW b w w1 from ⟨by rw [hw1]; exact (belowAlloc w _).mono h.le, KeepW.grownN gw1⟩)
  have HE1 := Lib.hid hE1
  have HNE : Hid (w.heap.size ≠ b) := Lib.hid (by omega)
  have HW1 := Lib.hid hw1
  have HX1 := Lib.hid (RepE.keeps (S := fun k => k < B) (T := fun k => k < B) (Keeps.grown gw1 (fun b _ e => by cases e)) (fun _ h _ => h) _ _ hrx)
  have HCY : Hid (w1.cell? ⟨g, o, none⟩ = some (.int .i64 x0) ∧ w1.cell? ⟨g, o + 1, none⟩ = some (.string x1) ∧ w1.cell? ⟨g, o + 2, none⟩ = some (.int .i64 x2) ∧ w1.cell? ⟨g, o + 3, none⟩ = some (.slice X xn xc) ∧ w1.cell? ⟨g, o + 4, none⟩ = some (.int .i64 x4)) := Lib.hid (by
    have e : ∀ x, w1.cell? ⟨g, x, none⟩ = w.cell? ⟨g, x, none⟩ := fun x => by simp [World.cell?, gw1.block g hgl (fun e => by cases e)]
    rw [e, e, e, e, e]; exact ⟨m0, m1, m2, m3, m4⟩)
  have HHX := Lib.hid hx
  have HGB := Lib.hid hgB
  have HLE := Lib.hid hlen
  obtain ⟨c0, c1, c2, c3, c4⟩ := cells5 hE1
  have hb1 := belowAlloc w (.cells #[.int .i64 6, .string s, .int .i64 n, .slice (some ⟨g, o, none⟩) L cc, .int .i64 p] 42)
  have hL0 : (0 : Int) < (L : Int) := by omega
  have HP1 : Hid (Calls Tryz.prog 67 #[.pointer (some ⟨b, 0, none⟩), .slice (some ⟨w1.heap.size, 0, none⟩) 2 2] (w1.alloc (.cells #[.string ⟨#[110, 111, 116]⟩, .string ⟨#[32]⟩] 9)) (WTell B b acc [110, 111, 116, 32] w1)) := Lib.hid (put_new [⟨#[110, 111, 116]⟩, ⟨#[32]⟩] HI1.out (by simp) (by have := HLE.out; show _ + 4 ≤ _; omega) 2)
  rw [show w1.heap.size = w.heap.size + 1 from by rw [hw1]; simp] at HP1
  clear h hlen hw1 gw1 hbl hE1 hv0 hx hL hb1 hrx m0 m1 m2 m3 m4 hgB hgl hcs
  go_enter Tryz.func122, Tryz.ntmps122
  go_wp2_with fail
  rw [← HW1.out]
  (with_reducible refine HP1.out.mono ?_)
  rintro e w2 ht2
  have HT2 := Lib.hid ht2
  obtain ⟨rfl, _⟩ := ht2
  have HI2 := Lib.hid (HI1.out.tell HT2.out)
  have hE2 := HT2.out.2.2.2.2 _ _ _ HNE.out (by decide) HE1.out
  have q3 := hE2.cell 3
  have hb2 := HT2.out.2.2.1
  obtain ⟨m0, m1, m2, m3, m4⟩ := HCY.out
  have r0 := (hb2.cell (p := ⟨g, o, none⟩) HGB.out).trans m0
  have r1 := (hb2.cell (p := ⟨g, o + 1, none⟩) HGB.out).trans m1
  have r2 := (hb2.cell (p := ⟨g, o + 2, none⟩) HGB.out).trans m2
  have r3 := (hb2.cell (p := ⟨g, o + 3, none⟩) HGB.out).trans m3
  have r4 := (hb2.cell (p := ⟨g, o + 4, none⟩) HGB.out).trans m4
  have HY : Hid (Calls Tryz.prog 122 #[.pointer (some ⟨b, 0, none⟩), .agg #[.int .i64 x0, .string x1, .int .i64 x2, .slice X xn xc, .int .i64 x4], .int .i64 2] w2 (WTell B b (acc ++ [110, 111, 116, 32]) (textF f x 3) w2)) := Lib.hid (HHX.out 2 w2 _ _ (by decide) HI2.out (RepE.wtell HT2.out HX1.out) (by
    have h1 := HLE.out
    show _ + (textF f x 3).length ≤ _
    simp only [List.length_append, List.length_cons, List.length_nil]
    omega))
  clear m0 m1 m2 m3 m4 hE2 hb2
  go_wp2_with fail
  (with_reducible refine HY.out.mono ?_)
  rintro e w3 ht3
  have HT3 := Lib.hid ((HT2.out.seq ht3).from HK1.out.1 HK1.out.2)
  obtain ⟨rfl, _⟩ := ht3
  go_wp2
  go_end0
  exact HT3.out
set_option maxRecDepth 100000 in
set_option maxHeartbeats 2000000 in
theorem expr_not2 {B b f : Nat} {n p : Int} {s : ByteArray} {x : Ex} {l : List Ex} (hx : EAsk B b f x) (w : World) (acc : List Int) (v : Value) (h : WrI B b acc w) (hv : RepE w (fun k => k < B) (.mk 6 s n (x :: l) p) v)
    (hlen : acc.length + ([110, 111, 116, 32] ++ textF f x 3).length ≤ 140737488355328) :
    Calls Tryz.prog 122 #[.pointer (some ⟨b, 0, none⟩), v, .int .i64 2] w (WTell B b acc ([110, 111, 116, 32] ++ textF f x 3) w) := by
  have hv0 := hv
  rw [RepE] at hv
  obtain ⟨A, cc, rfl, _, _, hcs⟩ := hv
  obtain ⟨g, o, rfl, hgB, hgl, hrep⟩ := hcs (by simp)
  rw [RepEs] at hrep
  obtain ⟨⟨vx, hrx, hfx⟩, _⟩ := hrep
  obtain ⟨x0, x1, x2, X, xn, xc, x4, rfl⟩ := hrx.form
  obtain ⟨a0, a1, a2, a3, a4, e, m0, m1, m2, m3, m4⟩ := hfx
  simp only [Value.agg.injEq, Array.mk.injEq, List.cons.injEq, and_true] at e
  obtain ⟨rfl, rfl, rfl, rfl, rfl⟩ := e
  obtain ⟨L, hL⟩ : ∃ L, L = (x :: l).length := ⟨_, rfl⟩
  have hL1 : 1 ≤ L := by rw [hL]; simp
  rw [← hL] at hv0 ⊢
  simp only [List.length_append, List.length_cons, List.length_nil] at hlen
  have hbl := wbl_lt h.bld
  obtain ⟨w1, hw1⟩ : ∃ W, W = w.alloc (.cells #[.int .i64 6, .string s, .int .i64 n, .slice (some ⟨g, o, none⟩) L cc, .int .i64 p] 42) := ⟨_, rfl⟩
  have gw1 : w.grownBy w1 none := by rw [hw1]; exact World.grownBy_alloc _ _ none
  have hE1 : Blk w1 w.heap.size 42 [.int .i64 6, .string s, .int .i64 n, .slice (some ⟨g, o, none⟩) L cc, .int .i64 p] := by rw [hw1]; exact heap_alloc_new w _
  have HI1 : Hid (WrI B b acc w1) := Lib.hid (by rw [hw1]; exact h.alloc _)
  have HK1 := Lib.hid (show Below B w w1 ∧ KeepW b w w1 from ⟨by rw [hw1]; exact (belowAlloc w _).mono h.le, KeepW.grownN gw1⟩)
  have HE1 := Lib.hid hE1
  have HNE : Hid (w.heap.size ≠ b) := Lib.hid (by omega)
  have HW1 := Lib.hid hw1
  have HX1 := Lib.hid (RepE.keeps (S := fun k => k < B) (T := fun k => k < B) (Keeps.grown gw1 (fun b _ e => by cases e)) (fun _ h _ => h) _ _ hrx)
  have HCY : Hid (w1.cell? ⟨g, o, none⟩ = some (.int .i64 x0) ∧ w1.cell? ⟨g, o + 1, none⟩ = some (.string x1) ∧ w1.cell? ⟨g, o + 2, none⟩ = some (.int .i64 x2) ∧ w1.cell? ⟨g, o + 3, none⟩ = some (.slice X xn xc) ∧ w1.cell? ⟨g, o + 4, none⟩ = some (.int .i64 x4)) := Lib.hid (by
    have e : ∀ x, w1.cell? ⟨g, x, none⟩ = w.cell? ⟨g, x, none⟩ := fun x => by simp [World.cell?, gw1.block g hgl (fun e => by cases e)]
    rw [e, e, e, e, e]; exact ⟨m0, m1, m2, m3, m4⟩)
  have HHX := Lib.hid hx
  have HGB := Lib.hid hgB
  have HLE := Lib.hid hlen
  obtain ⟨c0, c1, c2, c3, c4⟩ := cells5 hE1
  have hb1 := belowAlloc w (.cells #[.int .i64 6, .string s, .int .i64 n, .slice (some ⟨g, o, none⟩) L cc, .int .i64 p] 42)
  have hL0 : (0 : Int) < (L : Int) := by omega
  have HP1 : Hid (Calls Tryz.prog 67 #[.pointer (some ⟨b, 0, none⟩), .slice (some ⟨w1.heap.size, 0, none⟩) 2 2] (w1.alloc (.cells #[.string ⟨#[110, 111, 116]⟩, .string ⟨#[32]⟩] 9)) (WTell B b acc [110, 111, 116, 32] w1)) := Lib.hid (put_new [⟨#[110, 111, 116]⟩, ⟨#[32]⟩] HI1.out (by simp) (by have := HLE.out; show _ + 4 ≤ _; omega) 2)
  rw [show w1.heap.size = w.heap.size + 1 from by rw [hw1]; simp] at HP1
  clear h hlen hw1 gw1 hbl hE1 hv0 hx hL hb1 hrx m0 m1 m2 m3 m4 hgB hgl hcs
  go_enter Tryz.func122, Tryz.ntmps122
  go_wp2_with fail
  rw [← HW1.out]
  (with_reducible refine HP1.out.mono ?_)
  rintro e w2 ht2
  have HT2 := Lib.hid ht2
  obtain ⟨rfl, _⟩ := ht2
  have HI2 := Lib.hid (HI1.out.tell HT2.out)
  have hE2 := HT2.out.2.2.2.2 _ _ _ HNE.out (by decide) HE1.out
  have q3 := hE2.cell 3
  have hb2 := HT2.out.2.2.1
  obtain ⟨m0, m1, m2, m3, m4⟩ := HCY.out
  have r0 := (hb2.cell (p := ⟨g, o, none⟩) HGB.out).trans m0
  have r1 := (hb2.cell (p := ⟨g, o + 1, none⟩) HGB.out).trans m1
  have r2 := (hb2.cell (p := ⟨g, o + 2, none⟩) HGB.out).trans m2
  have r3 := (hb2.cell (p := ⟨g, o + 3, none⟩) HGB.out).trans m3
  have r4 := (hb2.cell (p := ⟨g, o + 4, none⟩) HGB.out).trans m4
  have HY : Hid (Calls Tryz.prog 122 #[.pointer (some ⟨b, 0, none⟩), .agg #[.int .i64 x0, .string x1, .int .i64 x2, .slice X xn xc, .int .i64 x4], .int .i64 2] w2 (WTell B b (acc ++ [110, 111, 116, 32]) (textF f x 3) w2)) := Lib.hid (HHX.out 2 w2 _ _ (by decide) HI2.out (RepE.wtell HT2.out HX1.out) (by
    have h1 := HLE.out
    show _ + (textF f x 3).length ≤ _
    simp only [List.length_append, List.length_cons, List.length_nil]
    omega))
  clear m0 m1 m2 m3 m4 hE2 hb2
  go_wp2_with fail
  (with_reducible refine HY.out.mono ?_)
  rintro e w3 ht3
  have HT3 := Lib.hid ((HT2.out.seq ht3).from HK1.out.1 HK1.out.2)
  obtain ⟨rfl, _⟩ := ht3
  go_wp2
  go_end0
  exact HT3.out
set_option maxRecDepth 100000 in
set_option maxHeartbeats 2000000 in
theorem expr_in0 {B b f : Nat} {n p : Int} {s : ByteArray} {x y : Ex} {l : List Ex} (hx : OAskW B b f x) (hl : (y :: l).length ≤ 1000000) (hys : ∀ z ∈ y :: l, OAskW B b f z) (w : World) (acc : List Int) (v : Value) (h : WrI B b acc w) (hv : RepE w (fun x => x < B) (.mk 13 s n (x :: y :: l) p) v)
    (hlen : acc.length + (textF f x 5 ++ [32, 105, 110, 32, 91] ++ joinC ((y :: l).map fun e => textF f e 5) ++ [93]).length ≤ 140737488355328) :
    Calls Tryz.prog 122 #[.pointer (some ⟨b, 0, none⟩), v, .int .i64 0] w (WTell B b acc (textF f x 5 ++ [32, 105, 110, 32, 91] ++ joinC ((y :: l).map fun e => textF f e 5) ++ [93]) w) := by
  have hv0 := hv
  rw [RepE] at hv
  obtain ⟨A, cc, rfl, _, _, _⟩ := hv
  obtain ⟨L, hL⟩ : ∃ L, L = (x :: y :: l).length := ⟨_, rfl⟩
  rw [← hL] at hv0 ⊢
  have hbl := wbl_lt h.bld
  obtain ⟨w1, hw1⟩ : ∃ W, W = w.alloc (.cells #[.int .i64 13, .string s, .int .i64 n, .slice A L cc, .int .i64 p] 42) := ⟨_, rfl⟩
  have gw1 : w.grownBy w1 none := by rw [hw1]; exact World.grownBy_alloc _ _ none
  have hE1 : Blk w1 w.heap.size 42 [.int .i64 13, .string s, .int .i64 n, .slice A L cc, .int .i64 p] := by rw [hw1]; exact heap_alloc_new w _
  have HI1 : Hid (WrI B b acc w1) := Lib.hid (by rw [hw1]; exact h.alloc _)
  have HK1 := Lib.hid (show Below B w w1 ∧ KeepW b w w1 from ⟨by rw [hw1]; exact (belowAlloc w _).mono h.le, KeepW.grownN gw1⟩)
  have HE1 := Lib.hid hE1
  have HNE : Hid (w.heap.size ≠ b) := Lib.hid (by omega)
  have HW1 := Lib.hid hw1
  have HO := Lib.hid (in_of hx hl hys HI1.out (RepE.keeps (S := fun k => k < B) (T := fun k => k < B) (Keeps.grown gw1 (fun b _ e => by cases e)) (fun _ h _ => h) _ _ (hL ▸ hv0)) hlen)
  rw [← hL] at HO
  obtain ⟨X, hX⟩ : ∃ X, X = (textF f x 5 ++ [32, 105, 110, 32, 91] ++ joinC ((y :: l).map fun e => textF f e 5) ++ [93]) := ⟨_, rfl⟩
  rw [← hX] at HO ⊢
  obtain ⟨c0, c1, c2, c3, c4⟩ := cells5 hE1
  have hb1 := belowAlloc w (.cells #[.int .i64 13, .string s, .int .i64 n, .slice A L cc, .int .i64 p] 42)
  clear h hlen hw1 gw1 hbl hE1 hv0 hx hl hys hL hX hb1
  go_enter Tryz.func122, Tryz.ntmps122
  go_wp2_with fail
  rw [← HW1.out]
  (with_reducible refine HO.out.mono ?_)
  rintro e w3 ht3
  have HT3 := Lib.hid (ht3.from HK1.out.1 HK1.out.2)
  obtain ⟨rfl, _⟩ := ht3
  go_wp2
  go_end0
  exact HT3.out
set_option maxRecDepth 100000 in
set_option maxHeartbeats 2000000 in
theorem expr_in1 {B b f : Nat} {n p : Int} {s : ByteArray} {x y : Ex} {l : List Ex} (hx : OAskW B b f x) (hl : (y :: l).length ≤ 1000000) (hys : ∀ z ∈ y :: l, OAskW B b f z) (w : World) (acc : List Int) (v : Value) (h : WrI B b acc w) (hv : RepE w (fun x => x < B) (.mk 13 s n (x :: y :: l) p) v)
    (hlen : acc.length + (textF f x 5 ++ [32, 105, 110, 32, 91] ++ joinC ((y :: l).map fun e => textF f e 5) ++ [93]).length ≤ 140737488355328) :
    Calls Tryz.prog 122 #[.pointer (some ⟨b, 0, none⟩), v, .int .i64 1] w (WTell B b acc (textF f x 5 ++ [32, 105, 110, 32, 91] ++ joinC ((y :: l).map fun e => textF f e 5) ++ [93]) w) := by
  have hv0 := hv
  rw [RepE] at hv
  obtain ⟨A, cc, rfl, _, _, _⟩ := hv
  obtain ⟨L, hL⟩ : ∃ L, L = (x :: y :: l).length := ⟨_, rfl⟩
  rw [← hL] at hv0 ⊢
  have hbl := wbl_lt h.bld
  obtain ⟨w1, hw1⟩ : ∃ W, W = w.alloc (.cells #[.int .i64 13, .string s, .int .i64 n, .slice A L cc, .int .i64 p] 42) := ⟨_, rfl⟩
  have gw1 : w.grownBy w1 none := by rw [hw1]; exact World.grownBy_alloc _ _ none
  have hE1 : Blk w1 w.heap.size 42 [.int .i64 13, .string s, .int .i64 n, .slice A L cc, .int .i64 p] := by rw [hw1]; exact heap_alloc_new w _
  have HI1 : Hid (WrI B b acc w1) := Lib.hid (by rw [hw1]; exact h.alloc _)
  have HK1 := Lib.hid (show Below B w w1 ∧ KeepW b w w1 from ⟨by rw [hw1]; exact (belowAlloc w _).mono h.le, KeepW.grownN gw1⟩)
  have HE1 := Lib.hid hE1
  have HNE : Hid (w.heap.size ≠ b) := Lib.hid (by omega)
  have HW1 := Lib.hid hw1
  have HO := Lib.hid (in_of hx hl hys HI1.out (RepE.keeps (S := fun k => k < B) (T := fun k => k < B) (Keeps.grown gw1 (fun b _ e => by cases e)) (fun _ h _ => h) _ _ (hL ▸ hv0)) hlen)
  rw [← hL] at HO
  obtain ⟨X, hX⟩ : ∃ X, X = (textF f x 5 ++ [32, 105, 110, 32, 91] ++ joinC ((y :: l).map fun e => textF f e 5) ++ [93]) := ⟨_, rfl⟩
  rw [← hX] at HO ⊢
  obtain ⟨c0, c1, c2, c3, c4⟩ := cells5 hE1
  have hb1 := belowAlloc w (.cells #[.int .i64 13, .string s, .int .i64 n, .slice A L cc, .int .i64 p] 42)
  clear h hlen hw1 gw1 hbl hE1 hv0 hx hl hys hL hX hb1
  go_enter Tryz.func122, Tryz.ntmps122
  go_wp2_with fail
  rw [← HW1.out]
  (with_reducible refine HO.out.mono ?_)
  rintro e w3 ht3
  have HT3 := Lib.hid (ht3.from HK1.out.1 HK1.out.2)
  obtain ⟨rfl, _⟩ := ht3
  go_wp2
  go_end0
  exact HT3.out
set_option maxRecDepth 100000 in
set_option maxHeartbeats 2000000 in
theorem expr_in2 {B b f : Nat} {n p : Int} {s : ByteArray} {x y : Ex} {l : List Ex} (hx : OAskW B b f x) (hl : (y :: l).length ≤ 1000000) (hys : ∀ z ∈ y :: l, OAskW B b f z) (w : World) (acc : List Int) (v : Value) (h : WrI B b acc w) (hv : RepE w (fun x => x < B) (.mk 13 s n (x :: y :: l) p) v)
    (hlen : acc.length + (textF f x 5 ++ [32, 105, 110, 32, 91] ++ joinC ((y :: l).map fun e => textF f e 5) ++ [93]).length ≤ 140737488355328) :
    Calls Tryz.prog 122 #[.pointer (some ⟨b, 0, none⟩), v, .int .i64 2] w (WTell B b acc (textF f x 5 ++ [32, 105, 110, 32, 91] ++ joinC ((y :: l).map fun e => textF f e 5) ++ [93]) w) := by
  have hv0 := hv
  rw [RepE] at hv
  obtain ⟨A, cc, rfl, _, _, _⟩ := hv
  obtain ⟨L, hL⟩ : ∃ L, L = (x :: y :: l).length := ⟨_, rfl⟩
  rw [← hL] at hv0 ⊢
  have hbl := wbl_lt h.bld
  obtain ⟨w1, hw1⟩ : ∃ W, W = w.alloc (.cells #[.int .i64 13, .string s, .int .i64 n, .slice A L cc, .int .i64 p] 42) := ⟨_, rfl⟩
  have gw1 : w.grownBy w1 none := by rw [hw1]; exact World.grownBy_alloc _ _ none
  have hE1 : Blk w1 w.heap.size 42 [.int .i64 13, .string s, .int .i64 n, .slice A L cc, .int .i64 p] := by rw [hw1]; exact heap_alloc_new w _
  have HI1 : Hid (WrI B b acc w1) := Lib.hid (by rw [hw1]; exact h.alloc _)
  have HK1 := Lib.hid (show Below B w w1 ∧ KeepW b w w1 from ⟨by rw [hw1]; exact (belowAlloc w _).mono h.le, KeepW.grownN gw1⟩)
  have HE1 := Lib.hid hE1
  have HNE : Hid (w.heap.size ≠ b) := Lib.hid (by omega)
  have HW1 := Lib.hid hw1
  have HO := Lib.hid (in_of hx hl hys HI1.out (RepE.keeps (S := fun k => k < B) (T := fun k => k < B) (Keeps.grown gw1 (fun b _ e => by cases e)) (fun _ h _ => h) _ _ (hL ▸ hv0)) hlen)
  rw [← hL] at HO
  obtain ⟨X, hX⟩ : ∃ X, X = (textF f x 5 ++ [32, 105, 110, 32, 91] ++ joinC ((y :: l).map fun e => textF f e 5) ++ [93]) := ⟨_, rfl⟩
  rw [← hX] at HO ⊢
  obtain ⟨c0, c1, c2, c3, c4⟩ := cells5 hE1
  have hb1 := belowAlloc w (.cells #[.int .i64 13, .string s, .int .i64 n, .slice A L cc, .int .i64 p] 42)
  clear h hlen hw1 gw1 hbl hE1 hv0 hx hl hys hL hX hb1
  go_enter Tryz.func122, Tryz.ntmps122
  go_wp2_with fail
  rw [← HW1.out]
  (with_reducible refine HO.out.mono ?_)
  rintro e w3 ht3
  have HT3 := Lib.hid (ht3.from HK1.out.1 HK1.out.2)
  obtain ⟨rfl, _⟩ := ht3
  go_wp2
  go_end0
  exact HT3.out
set_option maxRecDepth 100000 in
set_option maxHeartbeats 2000000 in
theorem expr_in3 {B b f : Nat} {n p : Int} {s : ByteArray} {x y : Ex} {l : List Ex} (hx : OAskW B b f x) (hl : (y :: l).length ≤ 1000000) (hys : ∀ z ∈ y :: l, OAskW B b f z) (w : World) (acc : List Int) (v : Value) (h : WrI B b acc w) (hv : RepE w (fun x => x < B) (.mk 13 s n (x :: y :: l) p) v)
    (hlen : acc.length + (textF f x 5 ++ [32, 105, 110, 32, 91] ++ joinC ((y :: l).map fun e => textF f e 5) ++ [93]).length ≤ 140737488355328) :
    Calls Tryz.prog 122 #[.pointer (some ⟨b, 0, none⟩), v, .int .i64 3] w (WTell B b acc (textF f x 5 ++ [32, 105, 110, 32, 91] ++ joinC ((y :: l).map fun e => textF f e 5) ++ [93]) w) := by
  have hv0 := hv
  rw [RepE] at hv
  obtain ⟨A, cc, rfl, _, _, _⟩ := hv
  obtain ⟨L, hL⟩ : ∃ L, L = (x :: y :: l).length := ⟨_, rfl⟩
  rw [← hL] at hv0 ⊢
  have hbl := wbl_lt h.bld
  obtain ⟨w1, hw1⟩ : ∃ W, W = w.alloc (.cells #[.int .i64 13, .string s, .int .i64 n, .slice A L cc, .int .i64 p] 42) := ⟨_, rfl⟩
  have gw1 : w.grownBy w1 none := by rw [hw1]; exact World.grownBy_alloc _ _ none
  have hE1 : Blk w1 w.heap.size 42 [.int .i64 13, .string s, .int .i64 n, .slice A L cc, .int .i64 p] := by rw [hw1]; exact heap_alloc_new w _
  have HI1 : Hid (WrI B b acc w1) := Lib.hid (by rw [hw1]; exact h.alloc _)
  have HK1 := Lib.hid (show Below B w w1 ∧ KeepW b w w1 from ⟨by rw [hw1]; exact (belowAlloc w _).mono h.le, KeepW.grownN gw1⟩)
  have HE1 := Lib.hid hE1
  have HNE : Hid (w.heap.size ≠ b) := Lib.hid (by omega)
  have HW1 := Lib.hid hw1
  have HO := Lib.hid (in_of hx hl hys HI1.out (RepE.keeps (S := fun k => k < B) (T := fun k => k < B) (Keeps.grown gw1 (fun b _ e => by cases e)) (fun _ h _ => h) _ _ (hL ▸ hv0)) hlen)
  rw [← hL] at HO
  obtain ⟨X, hX⟩ : ∃ X, X = (textF f x 5 ++ [32, 105, 110, 32, 91] ++ joinC ((y :: l).map fun e => textF f e 5) ++ [93]) := ⟨_, rfl⟩
  rw [← hX] at HO ⊢
  obtain ⟨c0, c1, c2, c3, c4⟩ := cells5 hE1
  have hb1 := belowAlloc w (.cells #[.int .i64 13, .string s, .int .i64 n, .slice A L cc, .int .i64 p] 42)
  clear h hlen hw1 gw1 hbl hE1 hv0 hx hl hys hL hX hb1
  go_enter Tryz.func122, Tryz.ntmps122
  go_wp2_with fail
  rw [← HW1.out]
  (with_reducible refine HO.out.mono ?_)
  rintro e w3 ht3
  have HT3 := Lib.hid (ht3.from HK1.out.1 HK1.out.2)
  obtain ⟨rfl, _⟩ := ht3
  go_wp2
  go_end0
  exact HT3.out
set_option maxRecDepth 100000 in
set_option maxHeartbeats 2000000 in
theorem expr_sign0 {B b f : Nat} {n p : Int} {s : ByteArray} {x y : Ex} {l : List Ex} {op : Int} {said : ByteArray} (n8 : op ≠ 8) (n7 : op ≠ 7) (n6 : op ≠ 6) (n13 : op ≠ 13) (hs0 : signS op = said) (hne : said ≠ E0) (hx : EAsk B b f x) (hy : EAsk B b f y) (w : World) (acc : List Int) (v : Value) (h : WrI B b acc w) (hv : RepE w (fun x => x < B) (.mk op s n (x :: y :: l) p) v)
    (hlen : acc.length + (textF f x 5 ++ (32 :: (strL said ++ [32])) ++ textF f y 5).length ≤ 140737488355328) :
    Calls Tryz.prog 122 #[.pointer (some ⟨b, 0, none⟩), v, .int .i64 0] w (WTell B b acc (textF f x 5 ++ (32 :: (strL said ++ [32])) ++ textF f y 5) w) := by
  have hv0 := hv
  rw [RepE] at hv
  obtain ⟨A, cc, rfl, _, _, _⟩ := hv
  obtain ⟨L, hL⟩ : ∃ L, L = (x :: y :: l).length := ⟨_, rfl⟩
  rw [← hL] at hv0 ⊢
  have hbl := wbl_lt h.bld
  obtain ⟨w1, hw1⟩ : ∃ W, W = w.alloc (.cells #[.int .i64 op, .string s, .int .i64 n, .slice A L cc, .int .i64 p] 42) := ⟨_, rfl⟩
  have gw1 : w.grownBy w1 none := by rw [hw1]; exact World.grownBy_alloc _ _ none
  have hE1 : Blk w1 w.heap.size 42 [.int .i64 op, .string s, .int .i64 n, .slice A L cc, .int .i64 p] := by rw [hw1]; exact heap_alloc_new w _
  have HI1 : Hid (WrI B b acc w1) := Lib.hid (by rw [hw1]; exact h.alloc _)
  have HK1 := Lib.hid (show Below B w w1 ∧ KeepW b w w1 from ⟨by rw [hw1]; exact (belowAlloc w _).mono h.le, KeepW.grownN gw1⟩)
  have HE1 := Lib.hid hE1
  have HNE : Hid (w.heap.size ≠ b) := Lib.hid (by omega)
  have HW1 := Lib.hid hw1
  have HO : Hid (Calls Tryz.prog 148 #[.pointer (some ⟨b, 0, none⟩), .agg #[.int .i64 op, .string s, .int .i64 n, .slice A (x :: y :: l).length cc, .int .i64 p], .int .i64 4, .string said, .int .i64 4] w1 (WTell B b acc (textF f x 5 ++ (32 :: (strL said ++ [32])) ++ textF f y 5) w1)) := Lib.hid (two_of hx hy HI1.out (RepE.keeps (S := fun k => k < B) (T := fun k => k < B) (Keeps.grown gw1 (fun b _ e => by cases e)) (fun _ h _ => h) _ _ (hL ▸ hv0)) 4 4 (by decide) (by decide) (said := said) hlen)
  rw [← hL] at HO
  obtain ⟨X, hX⟩ : ∃ X, X = (textF f x 5 ++ (32 :: (strL said ++ [32])) ++ textF f y 5) := ⟨_, rfl⟩
  rw [← hX] at HO ⊢
  have e8 : (op == 8) = false := by rw [beq_eq_false_iff_ne]; exact n8
  have e7 : (op == 7) = false := by rw [beq_eq_false_iff_ne]; exact n7
  have e6 : (op == 6) = false := by rw [beq_eq_false_iff_ne]; exact n6
  have e13 : (op == 13) = false := by rw [beq_eq_false_iff_ne]; exact n13
  have hne2 : (said.toList == []) = false := neLit hne
  have HSO := Lib.hid (fun W => wSaidOf_any op W)
  rw [hs0] at HSO
  obtain ⟨c0, c1, c2, c3, c4⟩ := cells5 hE1
  have hb1 := belowAlloc w (.cells #[.int .i64 op, .string s, .int .i64 n, .slice A L cc, .int .i64 p] 42)
  clear h hlen hw1 gw1 hbl hE1 hv0 hx hy hL hX hb1 n8 n7 n6 n13 hs0
  go_enter Tryz.func122, Tryz.ntmps122
  go_wp2_with fail
  rw [← HW1.out]
  (with_reducible refine (HSO.out _).mono ?_)
  rintro e w2 ⟨rfl, hw2⟩
  subst hw2
  go_wp2_with fail
  (with_reducible refine HO.out.mono ?_)
  rintro e w3 ht3
  have HT3 := Lib.hid (ht3.from HK1.out.1 HK1.out.2)
  obtain ⟨rfl, _⟩ := ht3
  go_wp2
  go_end0
  exact HT3.out
set_option maxRecDepth 100000 in
set_option maxHeartbeats 2000000 in
theorem expr_sign1 {B b f : Nat} {n p : Int} {s : ByteArray} {x y : Ex} {l : List Ex} {op : Int} {said : ByteArray} (n7 : op ≠ 7) (n6 : op ≠ 6) (n13 : op ≠ 13) (hs0 : signS op = said) (hne : said ≠ E0) (hx : EAsk B b f x) (hy : EAsk B b f y) (w : World) (acc : List Int) (v : Value) (h : WrI B b acc w) (hv : RepE w (fun x => x < B) (.mk op s n (x :: y :: l) p) v)
    (hlen : acc.length + (textF f x 5 ++ (32 :: (strL said ++ [32])) ++ textF f y 5).length ≤ 140737488355328) :
    Calls Tryz.prog 122 #[.pointer (some ⟨b, 0, none⟩), v, .int .i64 1] w (WTell B b acc (textF f x 5 ++ (32 :: (strL said ++ [32])) ++ textF f y 5) w) := by
  have hv0 := hv
  rw [RepE] at hv
  obtain ⟨A, cc, rfl, _, _, _⟩ := hv
  obtain ⟨L, hL⟩ : ∃ L, L = (x :: y :: l).length := ⟨_, rfl⟩
  rw [← hL] at hv0 ⊢
  have hbl := wbl_lt h.bld
  obtain ⟨w1, hw1⟩ : ∃ W, W = w.alloc (.cells #[.int .i64 op, .string s, .int .i64 n, .slice A L cc, .int .i64 p] 42) := ⟨_, rfl⟩
  have gw1 : w.grownBy w1 none := by rw [hw1]; exact World.grownBy_alloc _ _ none
  have hE1 : Blk w1 w.heap.size 42 [.int .i64 op, .string s, .int .i64 n, .slice A L cc, .int .i64 p] := by rw [hw1]; exact heap_alloc_new w _
  have HI1 : Hid (WrI B b acc w1) := Lib.hid (by rw [hw1]; exact h.alloc _)
  have HK1 := Lib.hid (show Below B w w1 ∧ KeepW b w w1 from ⟨by rw [hw1]; exact (belowAlloc w _).mono h.le, KeepW.grownN gw1⟩)
  have HE1 := Lib.hid hE1
  have HNE : Hid (w.heap.size ≠ b) := Lib.hid (by omega)
  have HW1 := Lib.hid hw1
  have HO : Hid (Calls Tryz.prog 148 #[.pointer (some ⟨b, 0, none⟩), .agg #[.int .i64 op, .string s, .int .i64 n, .slice A (x :: y :: l).length cc, .int .i64 p], .int .i64 4, .string said, .int .i64 4] w1 (WTell B b acc (textF f x 5 ++ (32 :: (strL said ++ [32])) ++ textF f y 5) w1)) := Lib.hid (two_of hx hy HI1.out (RepE.keeps (S := fun k => k < B) (T := fun k => k < B) (Keeps.grown gw1 (fun b _ e => by cases e)) (fun _ h _ => h) _ _ (hL ▸ hv0)) 4 4 (by decide) (by decide) (said := said) hlen)
  rw [← hL] at HO
  obtain ⟨X, hX⟩ : ∃ X, X = (textF f x 5 ++ (32 :: (strL said ++ [32])) ++ textF f y 5) := ⟨_, rfl⟩
  rw [← hX] at HO ⊢
  have e7 : (op == 7) = false := by rw [beq_eq_false_iff_ne]; exact n7
  have e6 : (op == 6) = false := by rw [beq_eq_false_iff_ne]; exact n6
  have e13 : (op == 13) = false := by rw [beq_eq_false_iff_ne]; exact n13
  have hne2 : (said.toList == []) = false := neLit hne
  have HSO := Lib.hid (fun W => wSaidOf_any op W)
  rw [hs0] at HSO
  obtain ⟨c0, c1, c2, c3, c4⟩ := cells5 hE1
  have hb1 := belowAlloc w (.cells #[.int .i64 op, .string s, .int .i64 n, .slice A L cc, .int .i64 p] 42)
  clear h hlen hw1 gw1 hbl hE1 hv0 hx hy hL hX hb1 n7 n6 n13 hs0
  go_enter Tryz.func122, Tryz.ntmps122
  go_wp2_with fail
  rw [← HW1.out]
  (with_reducible refine (HSO.out _).mono ?_)
  rintro e w2 ⟨rfl, hw2⟩
  subst hw2
  go_wp2_with fail
  (with_reducible refine HO.out.mono ?_)
  rintro e w3 ht3
  have HT3 := Lib.hid (ht3.from HK1.out.1 HK1.out.2)
  obtain ⟨rfl, _⟩ := ht3
  go_wp2
  go_end0
  exact HT3.out
set_option maxRecDepth 100000 in
set_option maxHeartbeats 2000000 in
theorem expr_sign2 {B b f : Nat} {n p : Int} {s : ByteArray} {x y : Ex} {l : List Ex} {op : Int} {said : ByteArray} (n6 : op ≠ 6) (n13 : op ≠ 13) (hs0 : signS op = said) (hne : said ≠ E0) (hx : EAsk B b f x) (hy : EAsk B b f y) (w : World) (acc : List Int) (v : Value) (h : WrI B b acc w) (hv : RepE w (fun x => x < B) (.mk op s n (x :: y :: l) p) v)
    (hlen : acc.length + (textF f x 5 ++ (32 :: (strL said ++ [32])) ++ textF f y 5).length ≤ 140737488355328) :
    Calls Tryz.prog 122 #[.pointer (some ⟨b, 0, none⟩), v, .int .i64 2] w (WTell B b acc (textF f x 5 ++ (32 :: (strL said ++ [32])) ++ textF f y 5) w) := by
  have hv0 := hv
  rw [RepE] at hv
  obtain ⟨A, cc, rfl, _, _, _⟩ := hv
  obtain ⟨L, hL⟩ : ∃ L, L = (x :: y :: l).length := ⟨_, rfl⟩
  rw [← hL] at hv0 ⊢
  have hbl := wbl_lt h.bld
  obtain ⟨w1, hw1⟩ : ∃ W, W = w.alloc (.cells #[.int .i64 op, .string s, .int .i64 n, .slice A L cc, .int .i64 p] 42) := ⟨_, rfl⟩
  have gw1 : w.grownBy w1 none := by rw [hw1]; exact World.grownBy_alloc _ _ none
  have hE1 : Blk w1 w.heap.size 42 [.int .i64 op, .string s, .int .i64 n, .slice A L cc, .int .i64 p] := by rw [hw1]; exact heap_alloc_new w _
  have HI1 : Hid (WrI B b acc w1) := Lib.hid (by rw [hw1]; exact h.alloc _)
  have HK1 := Lib.hid (show Below B w w1 ∧ KeepW b w w1 from ⟨by rw [hw1]; exact (belowAlloc w _).mono h.le, KeepW.grownN gw1⟩)
  have HE1 := Lib.hid hE1
  have HNE : Hid (w.heap.size ≠ b) := Lib.hid (by omega)
  have HW1 := Lib.hid hw1
  have HO : Hid (Calls Tryz.prog 148 #[.pointer (some ⟨b, 0, none⟩), .agg #[.int .i64 op, .string s, .int .i64 n, .slice A (x :: y :: l).length cc, .int .i64 p], .int .i64 4, .string said, .int .i64 4] w1 (WTell B b acc (textF f x 5 ++ (32 :: (strL said ++ [32])) ++ textF f y 5) w1)) := Lib.hid (two_of hx hy HI1.out (RepE.keeps (S := fun k => k < B) (T := fun k => k < B) (Keeps.grown gw1 (fun b _ e => by cases e)) (fun _ h _ => h) _ _ (hL ▸ hv0)) 4 4 (by decide) (by decide) (said := said) hlen)
  rw [← hL] at HO
  obtain ⟨X, hX⟩ : ∃ X, X = (textF f x 5 ++ (32 :: (strL said ++ [32])) ++ textF f y 5) := ⟨_, rfl⟩
  rw [← hX] at HO ⊢
  have e6 : (op == 6) = false := by rw [beq_eq_false_iff_ne]; exact n6
  have e13 : (op == 13) = false := by rw [beq_eq_false_iff_ne]; exact n13
  have hne2 : (said.toList == []) = false := neLit hne
  have HSO := Lib.hid (fun W => wSaidOf_any op W)
  rw [hs0] at HSO
  obtain ⟨c0, c1, c2, c3, c4⟩ := cells5 hE1
  have hb1 := belowAlloc w (.cells #[.int .i64 op, .string s, .int .i64 n, .slice A L cc, .int .i64 p] 42)
  clear h hlen hw1 gw1 hbl hE1 hv0 hx hy hL hX hb1 n6 n13 hs0
  go_enter Tryz.func122, Tryz.ntmps122
  go_wp2_with fail
  rw [← HW1.out]
  (with_reducible refine (HSO.out _).mono ?_)
  rintro e w2 ⟨rfl, hw2⟩
  subst hw2
  go_wp2_with fail
  (with_reducible refine HO.out.mono ?_)
  rintro e w3 ht3
  have HT3 := Lib.hid (ht3.from HK1.out.1 HK1.out.2)
  obtain ⟨rfl, _⟩ := ht3
  go_wp2
  go_end0
  exact HT3.out
set_option maxRecDepth 100000 in
set_option maxHeartbeats 2000000 in
theorem expr_sign3 {B b f : Nat} {n p : Int} {s : ByteArray} {x y : Ex} {l : List Ex} {op : Int} {said : ByteArray} (n13 : op ≠ 13) (hs0 : signS op = said) (hne : said ≠ E0) (hx : EAsk B b f x) (hy : EAsk B b f y) (w : World) (acc : List Int) (v : Value) (h : WrI B b acc w) (hv : RepE w (fun x => x < B) (.mk op s n (x :: y :: l) p) v)
    (hlen : acc.length + (textF f x 5 ++ (32 :: (strL said ++ [32])) ++ textF f y 5).length ≤ 140737488355328) :
    Calls Tryz.prog 122 #[.pointer (some ⟨b, 0, none⟩), v, .int .i64 3] w (WTell B b acc (textF f x 5 ++ (32 :: (strL said ++ [32])) ++ textF f y 5) w) := by
  have hv0 := hv
  rw [RepE] at hv
  obtain ⟨A, cc, rfl, _, _, _⟩ := hv
  obtain ⟨L, hL⟩ : ∃ L, L = (x :: y :: l).length := ⟨_, rfl⟩
  rw [← hL] at hv0 ⊢
  have hbl := wbl_lt h.bld
  obtain ⟨w1, hw1⟩ : ∃ W, W = w.alloc (.cells #[.int .i64 op, .string s, .int .i64 n, .slice A L cc, .int .i64 p] 42) := ⟨_, rfl⟩
  have gw1 : w.grownBy w1 none := by rw [hw1]; exact World.grownBy_alloc _ _ none
  have hE1 : Blk w1 w.heap.size 42 [.int .i64 op, .string s, .int .i64 n, .slice A L cc, .int .i64 p] := by rw [hw1]; exact heap_alloc_new w _
  have HI1 : Hid (WrI B b acc w1) := Lib.hid (by rw [hw1]; exact h.alloc _)
  have HK1 := Lib.hid (show Below B w w1 ∧ KeepW b w w1 from ⟨by rw [hw1]; exact (belowAlloc w _).mono h.le, KeepW.grownN gw1⟩)
  have HE1 := Lib.hid hE1
  have HNE : Hid (w.heap.size ≠ b) := Lib.hid (by omega)
  have HW1 := Lib.hid hw1
  have HO : Hid (Calls Tryz.prog 148 #[.pointer (some ⟨b, 0, none⟩), .agg #[.int .i64 op, .string s, .int .i64 n, .slice A (x :: y :: l).length cc, .int .i64 p], .int .i64 4, .string said, .int .i64 4] w1 (WTell B b acc (textF f x 5 ++ (32 :: (strL said ++ [32])) ++ textF f y 5) w1)) := Lib.hid (two_of hx hy HI1.out (RepE.keeps (S := fun k => k < B) (T := fun k => k < B) (Keeps.grown gw1 (fun b _ e => by cases e)) (fun _ h _ => h) _ _ (hL ▸ hv0)) 4 4 (by decide) (by decide) (said := said) hlen)
  rw [← hL] at HO
  obtain ⟨X, hX⟩ : ∃ X, X = (textF f x 5 ++ (32 :: (strL said ++ [32])) ++ textF f y 5) := ⟨_, rfl⟩
  rw [← hX] at HO ⊢
  have e13 : (op == 13) = false := by rw [beq_eq_false_iff_ne]; exact n13
  have hne2 : (said.toList == []) = false := neLit hne
  have HSO := Lib.hid (fun W => wSaidOf_any op W)
  rw [hs0] at HSO
  obtain ⟨c0, c1, c2, c3, c4⟩ := cells5 hE1
  have hb1 := belowAlloc w (.cells #[.int .i64 op, .string s, .int .i64 n, .slice A L cc, .int .i64 p] 42)
  clear h hlen hw1 gw1 hbl hE1 hv0 hx hy hL hX hb1 n13 hs0
  go_enter Tryz.func122, Tryz.ntmps122
  go_wp2_with fail
  rw [← HW1.out]
  (with_reducible refine (HSO.out _).mono ?_)
  rintro e w2 ⟨rfl, hw2⟩
  subst hw2
  go_wp2_with fail
  (with_reducible refine HO.out.mono ?_)
  rintro e w3 ht3
  have HT3 := Lib.hid (ht3.from HK1.out.1 HK1.out.2)
  obtain ⟨rfl, _⟩ := ht3
  go_wp2
  go_end0
  exact HT3.out
end Go.Proofs.YtcjfealalokjaaaGreatDoor
namespace Go.Proofs.YtcjfealalokjaaaGreatDoor
open Go Go.RowKit
theorem signS_no {op : Int} (h : op ≤ 8 ∨ op = 13 ∨ 14 < op) : signS op = E0 := by
  unfold signS
  rw [if_neg (by omega), if_neg (by omega), if_neg (by omega), if_neg (by omega), if_neg (by omega)]
theorem signS_text {op : Int} (h : op = 9 ∨ op = 10 ∨ op = 11 ∨ op = 12 ∨ op = 14) : strL (signS op) = signL op ∧ signS op ≠ E0 := by
  rcases h with rfl | rfl | rfl | rfl | rfl <;> exact ⟨by decide, by decide⟩
theorem good_comp {f : Nat} {op n p : Int} {s : ByteArray} {l : List Ex} (h : goodF (f + 1) (.mk op s n l p) = true) (h5 : 5 < op) :
    op ≤ 14 ∧ (∀ x ∈ l, goodF f x = true) ∧ (op = 6 → l.length = 1) ∧ (op ≠ 6 → op ≠ 13 → l.length = 2) ∧ (op = 13 → 2 ≤ l.length) := by
  rw [goodF] at h
  by_cases h1 : op < 1 ∨ 14 < op
  · rw [if_pos h1] at h; cases h
  rw [if_neg h1, if_neg (by omega)] at h
  by_cases h2 : n ≠ 0 ∨ s ≠ E0 ∨ (op = 6 ∧ l.length ≠ 1) ∨ (op ≠ 6 ∧ op ≠ 13 ∧ l.length ≠ 2) ∨ (op = 13 ∧ l.length < 2)
  · rw [if_pos h2] at h; cases h
  rw [if_neg h2] at h
  refine ⟨by omega, fun x hx => List.all_eq_true.mp h x hx, fun e => ?_, fun e1 e2 => ?_, fun e => ?_⟩
  · by_cases hh : l.length = 1
    · exact hh
    · exact absurd (.inr (.inr (.inl ⟨e, hh⟩))) h2
  · by_cases hh : l.length = 2
    · exact hh
    · exact absurd (.inr (.inr (.inr (.inl ⟨e1, e2, hh⟩)))) h2
  · by_cases hh : 2 ≤ l.length
    · exact hh
    · exact absurd (.inr (.inr (.inr (.inr ⟨e, by omega⟩)))) h2
theorem bind_cases {op : Int} {lv : Nat} (h : op ≤ 5 ∨ bindE op < lv + 1) (hlv : lv ≤ 4) : op ≤ 5 ∨ (op = 8 ∧ 1 ≤ lv) ∨ (op = 7 ∧ 2 ≤ lv) ∨ (op = 6 ∧ 3 ≤ lv) ∨ lv = 4 := by
  rcases h with h | h
  · exact .inl h
  · unfold bindE at h
    split at h
    · omega
    · split at h
      · omega
      · split at h
        · omega
        · split at h <;> omega
/-- An expression that must be an operand there. -/
theorem expr_falls {B b f : Nat} {op n p : Int} {s : ByteArray} {l : List Ex} (lv : Nat) (hlv : lv ≤ 4) (hb : op ≤ 5 ∨ bindE op < lv + 1) (ho : OAskW B b f (.mk op s n l p)) (w : World) (acc : List Int) (v : Value) (h : WrI B b acc w) (hv : RepE w (fun x => x < B) (.mk op s n l p) v)
    (hlen : acc.length + (textF f (.mk op s n l p) (lv + 1)).length ≤ 140737488355328) :
    Calls Tryz.prog 122 #[.pointer (some ⟨b, 0, none⟩), v, .int .i64 (lv : Int)] w (WTell B b acc (textF f (.mk op s n l p) (lv + 1)) w) := by
  have e5 : textF f (.mk op s n l p) (lv + 1) = textF f (.mk op s n l p) 5 := by
    show askedL op (lv + 1) _ = askedL op 5 _
    by_cases h5 : op ≤ 5
    · have : bindE op = 5 := by unfold bindE; rw [if_pos h5]
      rw [asked_bare (by omega), asked_bare (by omega)]
    · have hb' : bindE op < lv + 1 := by rcases hb with hb | hb; exact absurd hb h5; exact hb
      unfold askedL
      rw [if_pos hb', if_pos (by omega)]
  rw [e5] at hlen ⊢
  have hc := bind_cases hb hlv
  match lv, hlv, hc with
  | 0, _, hc => exact expr_opd0 (by omega) (by omega) (by omega) (by omega) (signS_no (by omega)) ho w acc v h hv hlen
  | 1, _, hc => exact expr_opd1 (by omega) (by omega) (by omega) (signS_no (by omega)) ho w acc v h hv hlen
  | 2, _, hc => exact expr_opd2 (by omega) (by omega) (signS_no (by omega)) ho w acc v h hv hlen
  | 3, _, hc => exact expr_opd3 (by omega) (signS_no (by omega)) ho w acc v h hv hlen
  | 4, _, _ => exact expr_opd4 ho w acc v h hv hlen
/-- An expression that may stand bare there. -/
theorem expr_bare {B b f : Nat} {op n p : Int} {s : ByteArray} {l : List Ex} (hg : goodF (f + 1) (.mk op s n l p) = true) (h5 : 5 < op) (hl : l.length ≤ 1000000) (hp : ∀ x ∈ l, EAsk B b f x ∧ OAskW B b f x) (lv : Nat) (hb : lv + 1 ≤ bindE op) (w : World) (acc : List Int) (v : Value) (h : WrI B b acc w) (hv : RepE w (fun x => x < B) (.mk op s n l p) v)
    (hlen : acc.length + (bareF (f + 1) (.mk op s n l p)).length ≤ 140737488355328) :
    Calls Tryz.prog 122 #[.pointer (some ⟨b, 0, none⟩), v, .int .i64 (lv : Int)] w (WTell B b acc (bareF (f + 1) (.mk op s n l p)) w) := by
  obtain ⟨h14, _, g6, g2, g13⟩ := good_comp hg h5
  by_cases o6 : op = 6
  · subst o6
    have hb3 : lv + 1 ≤ 3 := hb
    match l, g6 rfl, hp, hv with
    | [x], _, hp, hv =>
      have hx := (hp x (by simp)).1
      have et : bareF (f + 1) (.mk 6 s n [x] p) = [110, 111, 116, 32] ++ textF f x 3 := rfl
      rw [et] at hlen ⊢
      match lv, hb3 with
      | 0, _ => exact expr_not0 hx w acc v h hv hlen
      | 1, _ => exact expr_not1 hx w acc v h hv hlen
      | 2, _ => exact expr_not2 hx w acc v h hv hlen
  by_cases o13 : op = 13
  · subst o13
    have hb3 : lv + 1 ≤ 4 := hb
    match l, g13 rfl, hl, hp, hv with
    | x :: y :: r, _, hl, hp, hv =>
      have hx := (hp x (by simp)).2
      have hys : ∀ z ∈ y :: r, OAskW B b f z := fun z hz => (hp z (List.mem_cons_of_mem _ hz)).2
      have hl2 : (y :: r).length ≤ 1000000 := by simp only [List.length_cons] at hl ⊢; omega
      have et : bareF (f + 1) (.mk 13 s n (x :: y :: r) p) = textF f x 5 ++ [32, 105, 110, 32, 91] ++ joinC ((y :: r).map fun e => textF f e 5) ++ [93] := rfl
      rw [et] at hlen ⊢
      match lv, hb3 with
      | 0, _ => exact expr_in0 hx hl2 hys w acc v h hv hlen
      | 1, _ => exact expr_in1 hx hl2 hys w acc v h hv hlen
      | 2, _ => exact expr_in2 hx hl2 hys w acc v h hv hlen
      | 3, _ => exact expr_in3 hx hl2 hys w acc v h hv hlen
  match l, g2 o6 o13, hp, hv with
  | [x, y], _, hp, hv =>
    have hx := (hp x (by simp)).1
    have hy := (hp y (by simp)).1
    by_cases o7 : op = 7
    · subst o7
      have hb3 : lv + 1 ≤ 2 := hb
      have et : bareF (f + 1) (.mk 7 s n [x, y] p) = textF f x 2 ++ (32 :: (strL ⟨#[97, 110, 100]⟩ ++ [32])) ++ textF f y 3 := rfl
      rw [et] at hlen ⊢
      match lv, hb3 with
      | 0, _ => exact expr_and0 hx hy w acc v h hv hlen
      | 1, _ => exact expr_and1 hx hy w acc v h hv hlen
    by_cases o8 : op = 8
    · subst o8
      have hb3 : lv + 1 ≤ 1 := hb
      have et : bareF (f + 1) (.mk 8 s n [x, y] p) = textF f x 1 ++ (32 :: (strL ⟨#[111, 114]⟩ ++ [32])) ++ textF f y 2 := rfl
      rw [et] at hlen ⊢
      match lv, hb3 with
      | 0, _ => exact expr_or0 hx hy w acc v h hv hlen
    have hop : op = 9 ∨ op = 10 ∨ op = 11 ∨ op = 12 ∨ op = 14 := by omega
    obtain ⟨hst, hsn⟩ := signS_text hop
    have hb3 : lv + 1 ≤ 4 := by rcases hop with rfl | rfl | rfl | rfl | rfl <;> exact hb
    have et : bareF (f + 1) (.mk op s n [x, y] p) = textF f x 5 ++ (32 :: (strL (signS op) ++ [32])) ++ textF f y 5 := by
      rw [hst]
      have : bareF (f + 1) (.mk op s n [x, y] p) = textF f x 5 ++ 32 :: (signL op ++ 32 :: textF f y 5) := by
        rcases hop with rfl | rfl | rfl | rfl | rfl <;> rfl
      rw [this]
      simp [List.append_assoc]
    rw [et] at hlen ⊢
    match lv, hb3 with
    | 0, _ => exact expr_sign0 o8 o7 o6 o13 rfl hsn hx hy w acc v h hv hlen
    | 1, _ => exact expr_sign1 o7 o6 o13 rfl hsn hx hy w acc v h hv hlen
    | 2, _ => exact expr_sign2 o6 o13 rfl hsn hx hy w acc v h hv hlen
    | 3, _ => exact expr_sign3 o13 rfl hsn hx hy w acc v h hv hlen
/-- The writer writes every right expression, at every level and as an operand. -/
theorem expr_all {B b : Nat} : ∀ (f : Nat) (e : Ex), goodF f e = true → MildE e → EAsk B b f e ∧ OAskW B b f e := by
  intro f
  induction f with
  | zero =>
    intro e h
    have h2 : false = true := by rw [← h]; cases e; rfl
    cases h2
  | succ f ih =>
    intro e hg hm
    cases hm with
    | @mk op n p s l hs hl hml =>
    by_cases h5 : op ≤ 5
    · have ho := operand_leaf (B := B) (b := b) (p := p) hg h5 hs
      exact ⟨fun lv w acc v hlv h hv hlen => expr_falls lv hlv (.inl h5) ho w acc v h hv hlen, ho⟩
    · have h6 : 5 < op := by omega
      have hp : ∀ x ∈ l, EAsk B b f x ∧ OAskW B b f x := fun x hx => ih x ((good_comp hg h6).2.1 x hx) (hml x hx)
      have hbare := expr_bare (B := B) (b := b) hg h6 hl hp
      have ho : OAskW B b (f + 1) (.mk op s n l p) := operand_comp (by omega) (fun w acc v h hv hlen => hbare 0 (bindE_pos op).1 w acc v h hv hlen)
      refine ⟨fun lv w acc v hlv h hv hlen => ?_, ho⟩
      by_cases hb : lv + 1 ≤ bindE op
      · have et : textF (f + 1) (.mk op s n l p) (lv + 1) = bareF (f + 1) (.mk op s n l p) := asked_bare hb
        rw [et] at hlen ⊢
        exact hbare lv hb w acc v h hv hlen
      · exact expr_falls lv hlv (.inr (by omega)) ho w acc v h hv hlen
end Go.Proofs.YtcjfealalokjaaaGreatDoor
namespace Go.Proofs.YtcjfealalokjaaaGreatDoor
open Go Go.RowKit
theorem eg_quotedW : ∀ args w, (callFunc 121 args).run Tryz.prog w = .ok (.enter 121 args) w := enters_of Tryz.func121 (by kernel_rfl) rfl
/-- Texts in memory, one behind the other. -/
def RepTx (w : World) (g o : Nat) (l : List ByteArray) : Prop := ∀ i, i < l.length → ∃ t, l[i]? = some t ∧ t.size ≤ 9223372036854775807 ∧ w.cell? ⟨g, o + i, none⟩ = some (.string t)
set_option maxRecDepth 100000 in
set_option maxHeartbeats 4000000 in
theorem listingS_of {B b : Nat} {acc : List Int} {l : List ByteArray} (hl : l.length ≤ 1000000) (hs : ∀ t ∈ l, t.size ≤ 1000000000) {w : World} (h : WrI B b acc w) (g o c : Nat) (hg : g < B) (hr : RepTx w g o l) (hlen : acc.length + (joinC (l.map quoteL)).length ≤ 140737488355328) :
    Calls Tryz.prog 120 #[.pointer (some ⟨b, 0, none⟩), .slice (some ⟨g, o, none⟩) l.length c, .func (.func 121) #[.pointer (some ⟨b, 0, none⟩)] #[]] w (WTell B b acc (joinC (l.map quoteL)) w) := by
  have HS := Lib.hid hs
  have HH := Lib.hid h
  have HLE := Lib.hid hlen
  have HRE := Lib.hid hr
  have eg := eg_quotedW
  obtain ⟨xs, hxs⟩ : ∃ xs, xs = l.map quoteL := ⟨_, rfl⟩
  have HXS := Lib.hid hxs
  rw [← hxs] at HLE ⊢
  obtain ⟨n, hn⟩ : ∃ n, n = l.length := ⟨_, rfl⟩
  have HN := Lib.hid hn
  rw [← hn] at hl ⊢
  clear h hs hlen hr hxs hn
  go_enter Tryz.func120, Tryz.ntmps120
  go_wp2_with fail
  go_loopw [10] (fun v wr => ∃ i : Nat, i ≤ n ∧ v = .int .i64 (i : Int) ∧ WrI B b (acc ++ joinC (xs.take i)) wr ∧ Below B w wr ∧ KeepW b w wr) (fun v _ => n - (intOf v).toNat)
  case atStart => exact ⟨0, Nat.zero_le _, rfl, by rw [List.take_zero]; simpa [joinC] using HH.out, Below.refl _ _, KeepW.refl _ _⟩
  case round =>
    obtain ⟨i, hi, rfl, hI, hb, hk⟩ := hrel
    have HI := Lib.hid hI
    have HK := Lib.hid (And.intro hb hk)
    by_cases hlt : i < n
    · have hil : i < l.length := by rw [← HN.out]; exact hlt
      have hxl : xs.length = l.length := by rw [HXS.out, List.length_map]
      obtain ⟨t, ht, _, k0⟩ := HRE.out i hil
      have q0 := (hb.cell (p := ⟨g, o + i, none⟩) hg).trans k0
      have hts : t.size ≤ 1000000000 := HS.out t (by
        rw [List.getElem?_eq_getElem hil] at ht
        injection ht with ht
        rw [← ht]
        exact List.getElem_mem hil)
      have htk : xs.take (i + 1) = xs.take i ++ [quoteL t] := by
        have h2 : i < xs.length := by rw [hxl]; exact hil
        have h3 : xs[i]? = some (quoteL t) := by rw [HXS.out, List.getElem?_map, ht]; rfl
        rw [List.getElem?_eq_getElem h2] at h3
        injection h3 with h3
        rw [List.take_succ_eq_append_getElem h2, h3]
      have HBD : Hid (acc.length + (joinC (xs.take (i + 1))).length ≤ 140737488355328) := Lib.hid (by have := HLE.out; have := joinC_le xs (i + 1); omega)
      obtain ⟨T, hT⟩ : ∃ T, T = quoteL t := ⟨_, rfl⟩
      have HT := Lib.hid hT
      rw [← hT] at htk
      have HTS := Lib.hid hts
      have hi1 : (i : Int) < (n : Int) := by omega
      have hi2 : (0 : Int) ≤ (i : Int) := by omega
      by_cases h0 : i = 0
      · subst h0
        have HNX : Hid (acc ++ joinC (xs.take (0 + 1)) = (acc ++ joinC (xs.take 0)) ++ T) := Lib.hid (by rw [htk, List.take_zero]; simp [joinC])
        have HC := Lib.hid (wQuoted_any t hI hts (by have := HBD.out; rw [htk, List.take_zero] at this; rw [← HT.out, List.take_zero]; simpa [joinC] using this))
        rw [← HT.out] at HC
        clear hI hb hk k0 hT htk hxl ht hts
        simp only [Nat.add_zero] at q0
        go_wp2_with fail
        (with_reducible refine HC.out.mono ?_)
        rintro e w3 ht3
        have HT3 := Lib.hid ht3
        obtain ⟨rfl, _⟩ := ht3
        clear q0
        go_wp2
        go_roundw
        case rel => exact ⟨0 + 1, by omega, by go_num, by rw [HNX.out]; exact HI.out.tell HT3.out, HK.out.1.trans HT3.out.2.2.1, HK.out.2.trans HT3.out.2.2.2⟩
        case measure => simp [intOf]; omega
      · have hne : xs.take i ≠ [] := by
          intro e
          have h9 := congrArg List.length e
          rw [List.length_take, hxl, List.length_nil] at h9
          omega
        have hi3 : (0 : Int) < (i : Int) := by omega
        have HNX : Hid (acc ++ joinC (xs.take (i + 1)) = (acc ++ joinC (xs.take i)) ++ ([44, 32] ++ T)) := Lib.hid (by rw [htk, joinC_snoc _ _ hne, List.append_assoc])
        have HBE : Hid ((acc ++ joinC (xs.take i)).length + (2 + T.length) ≤ 140737488355328) := Lib.hid (by
          have := HBD.out
          rw [htk, joinC_snoc _ _ hne] at this
          simp only [List.length_append, List.length_cons, List.length_nil] at this ⊢
          omega)
        have HPP : Hid (Calls Tryz.prog 67 #[.pointer (some ⟨b, 0, none⟩), .slice (some ⟨wr.heap.size, 0, none⟩) 2 2] (wr.alloc (.cells #[.string ⟨#[44]⟩, .string ⟨#[32]⟩] 9)) (WTell B b (acc ++ joinC (xs.take i)) [44, 32] wr)) := Lib.hid (put_new [⟨#[44]⟩, ⟨#[32]⟩] hI (by simp) (by have := HBE.out; show _ + 2 ≤ _; omega) 2)
        clear hI hb hk k0 hT htk hxl hne ht hts
        go_wp2_with fail
        (with_reducible refine HPP.out.mono ?_)
        rintro e w2 ht2
        have HT2 := Lib.hid ht2
        obtain ⟨rfl, _⟩ := ht2
        have HI2 := Lib.hid (HI.out.tell HT2.out)
        have HC := Lib.hid (wQuoted_any t HI2.out HTS.out (by have := HBE.out; rw [← HT.out]; simp only [List.length_append, List.length_cons, List.length_nil] at this ⊢; omega))
        rw [← HT.out] at HC
        go_wp2_with fail
        (with_reducible refine HC.out.mono ?_)
        rintro e w3 ht3
        have HT3 := Lib.hid (HT2.out.seq ht3)
        obtain ⟨rfl, _⟩ := ht3
        clear q0
        go_wp2
        go_roundw
        case rel => exact ⟨i + 1, by omega, by go_num, by rw [HNX.out]; exact HI.out.tell HT3.out, HK.out.1.trans HT3.out.2.2.1, HK.out.2.trans HT3.out.2.2.2⟩
        case measure => simp [intOf]; omega
    · obtain rfl : i = n := by omega
      have hi1 : ¬ (i : Int) < (i : Int) := by omega
      have hall : xs.take i = xs := List.take_of_length_le (by rw [HXS.out, List.length_map, ← HN.out]; exact Nat.le_refl _)
      have HA := Lib.hid hall
      clear hI hb hk hall
      go_wp2
      go_end0
      exact ⟨rfl, by rw [← HA.out]; exact HI.out.bld, HK.out.1, HK.out.2⟩
end Go.Proofs.YtcjfealalokjaaaGreatDoor
