/- JpLaw, JsonAlive, JsonForm, JgLaw, JgLawV: merged. -/
import Derived.Lib.SlBytesConst
import Derived.Test.YtjfgmgkhinehaaaGreatDoorCx40
import Derived.Test.YtjfgmgkhinehaaaGreatDoorCx41
set_option linter.all false
namespace Go.Proofs.YtjfgmgkhinehaaaGreatDoor
open Go Go.RowKit
/-- What an error tells: none; a number alone; a number and a place. -/
def JErr (n pos : Int) (v : Value) (w : World) : Prop :=
  (n = 0 ∧ pos = -1 ∧ v = .nilIface) ∨ (n ≠ 0 ∧ pos = -1 ∧ v = .iface 95 (.int .i64 n)) ∨ (n ≠ 0 ∧ ∃ b, v = .iface 120 (.pointer (some ⟨b, 0, none⟩)) ∧ w.cell? ⟨b, 0, none⟩ = some (.int .i64 pos) ∧ w.cell? ⟨b, 1, none⟩ = some (.iface 95 (.int .i64 n)))
theorem JErr.below {n pos : Int} {v : Value} {w w' : World} (h : JErr n pos v w) (hb : Below w.heap.size w w') : JErr n pos v w' := by
  rcases h with h | h | ⟨h, b, e, h0, h1⟩
  · exact .inl h
  · exact .inr (.inl h)
  · exact .inr (.inr ⟨h, b, e, (hb.cell (p := ⟨b, 0, none⟩) (lt_of_cell h0)).trans h0, (hb.cell (p := ⟨b, 1, none⟩) (lt_of_cell h1)).trans h1⟩)
theorem numJ {n pos : Int} {v : Value} {W : World} (h : JErr n pos v W) (hg : ErrTab W) : Calls Tryz.prog 35 #[v] W fun e w' => e = .returned (.int .i64 n) ∧ Below W.heap.size W w' := by
  rcases h with ⟨rfl, rfl, rfl⟩ | ⟨_, rfl, rfl⟩ | ⟨_, b, rfl, h0, h1⟩
  · refine (num_nil W).mono ?_
    rintro e w' ⟨rfl, rfl⟩
    exact ⟨rfl, Below.refl _ _⟩
  · exact num_errno n W hg
  · exact num_at n b 0 W hg h1
theorem posJ {n pos : Int} {v : Value} {W : World} (h : JErr n pos v W) (hg : ErrTab W) : Calls Tryz.prog 43 #[v] W fun e w' => e = .returned (.int .i64 pos) ∧ Below W.heap.size W w' := by
  rcases h with ⟨rfl, rfl, rfl⟩ | ⟨_, rfl, rfl⟩ | ⟨_, b, rfl, h0, h1⟩
  · exact pos_nil W
  · exact pos_errno n W hg
  · exact pos_at pos b 0 W hg h0
theorem parsedL_ends (l : List Int) : ((parsedL l).2.1 = 0 → (parsedL l).2.2 = -1) ∧ ((parsedL l).2.1 ≠ 0 → (parsedL l).1 = zeroJ) := by
  unfold parsedL readL
  split
  · exact ⟨fun h => (by cases h), fun _ => rfl⟩
  · split
    · rename_i he; exact ⟨fun h => absurd h he, fun _ => rfl⟩
    · split
      · exact ⟨fun h => (by cases h), fun _ => rfl⟩
      · exact ⟨fun _ => rfl, fun h => absurd rfl h⟩
/-- What Parse tells, whatever comes. -/
def PAll (W : World) (r : J × Int × Int) (e : Ending) (w' : World) : Prop :=
  ∃ v ev, e = .returned (.tuple #[v, ev]) ∧ RepS w' (fun b => W.heap.size ≤ b) r.1 v ∧ JErr r.2.1 r.2.2 ev w' ∧ Below W.heap.size W w'
theorem parse_tells (A : Option Addr) (xs : List Int) (n c : Nat) (W : World) (hn : xs.length = n) (hn2 : n ≤ 9223372036854775807) (hx : Bytes xs) (hl : Lies W A xs) (hm : Marks W) (ht : ErrTab W) :
    Calls Tryz.prog 41 #[.slice A n c] W (PAll W (parsedL xs)) := by
  obtain ⟨e1, e2⟩ := parsedL_ends xs
  refine (parse_any A xs n c W hn hn2 hx hl hm ht).mono ?_
  rintro e w' hp
  rcases hp with (⟨h0, v, rfl, hr, hb⟩ | ⟨h0, b, rfl, c0, c1, _, hb⟩) | ⟨h0, h1, rfl, hb⟩
  · exact ⟨v, _, rfl, hr, .inl ⟨h0, e1 h0, rfl⟩, hb⟩
  · exact ⟨_, _, rfl, by rw [e2 h0]; exact RepS.zero _ _, .inr (.inr ⟨h0, b, rfl, c0, c1⟩), hb⟩
  · exact ⟨_, _, rfl, by rw [e2 h0]; exact RepS.zero _ _, .inr (.inl ⟨h0, h1, rfl⟩), hb⟩
mutual
def mildB : J → Bool
  | .mk _ _ s l k => decide (s.size ≤ 1000000000) && k.all (fun t => decide (t.size ≤ 1000000000)) && mildBs l
def mildBs : List J → Bool
  | [] => true
  | x :: r => mildB x && mildBs r
end
theorem mild_of (j : J) : mildB j = true → Mild j := by
  induction j using J.ind with
  | h kind n s l k ih =>
    intro h
    rw [mildB] at h
    simp only [Bool.and_eq_true, decide_eq_true_eq, List.all_eq_true] at h
    have key : ∀ (l : List J), (∀ x ∈ l, mildB x = true → Mild x) → mildBs l = true → ∀ x ∈ l, Mild x := fun l => by
      induction l with
      | nil => intro _ _ x hx; cases hx
      | cons y r ihr =>
        intro ih h x hx
        rw [mildBs, Bool.and_eq_true] at h
        rcases List.mem_cons.1 hx with rfl | hx
        · exact ih _ (by simp) h.1
        · exact ihr (fun z hz => ih z (List.mem_cons_of_mem _ hz)) h.2 x hx
    exact .mk kind n s l k h.1.1 h.1.2 (key l ih h.2)
/-- What the laws ask of the world. -/
structure Ask5 (w : World) : Prop where
  tab : ErrTab w
  marks : Marks w
theorem Ask5.below {w w' : World} (h : Ask5 w) (hb : Below w.heap.size w w') : Ask5 w' := ⟨h.tab.below hb, h.marks.below hb⟩
def tx1 : List Int := [123, 34, 98, 34, 58, 49, 44, 34, 97, 34, 58, 91, 116, 114, 117, 101, 44, 34, 92, 117, 50, 48, 97, 99, 34, 93, 125]
def tx2 : List Int := [123, 34, 97, 34, 58, 49, 44, 34, 97, 34, 58, 50, 125]
def tx3 : List Int := [91, 49, 46, 53, 93]
end Go.Proofs.YtjfgmgkhinehaaaGreatDoor
namespace Go.Proofs.YtjfgmgkhinehaaaGreatDoor
open Go Go.RowKit
def jx1 : J := .mk 5 0 ⟨#[]⟩ [.mk 4 0 ⟨#[]⟩ [.mk 1 1 ⟨#[]⟩ [] [], .mk 3 0 ⟨#[226, 130, 172]⟩ [] []] [], .mk 2 1 ⟨#[]⟩ [] []] [⟨#[97]⟩, ⟨#[98]⟩]
theorem jp1 : parsedL tx1 = (jx1, 0, -1) := by kernel_rfl
theorem jp2 : parsedL tx2 = (zeroJ, 52, 7) := by kernel_rfl
theorem jp3 : parsedL tx3 = (zeroJ, 50, 2) := by kernel_rfl
def tx4 : List Int := [123, 34, 97, 34, 58, 91, 116, 114, 117, 101, 44, 34, 226, 130, 172, 34, 93, 44, 34, 98, 34, 58, 49, 125]
theorem pr1 : printJ jx1 = (tx4, 0) := by kernel_rfl
theorem str4 : toS tx4 = ⟨#[123, 34, 97, 34, 58, 91, 116, 114, 117, 101, 44, 34, 226, 130, 172, 34, 93, 44, 34, 98, 34, 58, 49, 125]⟩ := by decide +kernel
theorem byt1 : Bytes tx1 := .of_mem (by decide)
theorem byt2j : Bytes tx2 := .of_mem (by decide)
theorem byt3j : Bytes tx3 := .of_mem (by decide)
theorem alive_p1 (W : World) (ha : Ask5 W) : Calls Tryz.prog 41 #[.slice (some ⟨W.heap.size, 0, none⟩) 27 27] (W.alloc (.cells (ints .u8 [123, 34, 98, 34, 58, 49, 44, 34, 97, 34, 58, 91, 116, 114, 117, 101, 44, 34, 92, 117, 50, 48, 97, 99, 34, 93, 125]).toArray 5 (27, 28))) fun e w' => ∃ A c K d, e = .returned (.tuple #[.agg #[.int .i64 5, .int .i64 0, .string ⟨#[]⟩, .slice A 2 c, .slice K 2 d], .nilIface]) ∧ RepJ w' jx1 (.agg #[.int .i64 5, .int .i64 0, .string ⟨#[]⟩, .slice A 2 c, .slice K 2 d]) ∧ Below W.heap.size W w' := by
  refine (parse_tells (some ⟨W.heap.size, 0, none⟩) tx1 27 27 _ rfl (by omega) byt1 (Lies.lit W _ _ _) (ha.marks.below (belowAlloc _ _)) (ha.tab.below (belowAlloc _ _))).mono ?_
  rintro e w' ⟨v, ev, rfl, hr, he, hb⟩
  rw [jp1] at hr he
  have hv : ev = .nilIface := by
    rcases he with ⟨_, _, h⟩ | ⟨h, _⟩ | ⟨h, _⟩
    · exact h
    · exact absurd rfl h
    · exact absurd rfl h
  subst hv
  obtain ⟨vk, A, c, rfl, _, ⟨K, d, rfl, _, _⟩, _, _⟩ := hr.open
  exact ⟨A, c, K, d, rfl, RepS.toJ _ _ hr, (belowAlloc W _).trans (hb.mono (belowAlloc W _).size)⟩
theorem alive_p2 (W : World) (ha : Ask5 W) : Calls Tryz.prog 41 #[.slice (some ⟨W.heap.size, 0, none⟩) 13 13] (W.alloc (.cells (ints .u8 [123, 34, 97, 34, 58, 49, 44, 34, 97, 34, 58, 50, 125]).toArray 5 (13, 14))) fun e w' => ∃ A c K d ev, e = .returned (.tuple #[.agg #[.int .i64 0, .int .i64 0, .string ⟨#[]⟩, .slice A 0 c, .slice K 0 d], ev]) ∧ JErr 52 7 ev w' ∧ Below W.heap.size W w' := by
  refine (parse_tells (some ⟨W.heap.size, 0, none⟩) tx2 13 13 _ rfl (by omega) byt2j (Lies.lit W _ _ _) (ha.marks.below (belowAlloc _ _)) (ha.tab.below (belowAlloc _ _))).mono ?_
  rintro e w' ⟨v, ev, rfl, hr, he, hb⟩
  rw [jp2] at hr he
  obtain ⟨vk, A, c, rfl, _, ⟨K, d, rfl, _, _⟩, _, _⟩ := hr.open
  exact ⟨A, c, K, d, ev, rfl, he, (belowAlloc W _).trans (hb.mono (belowAlloc W _).size)⟩
theorem alive_p3 (W : World) (ha : Ask5 W) : Calls Tryz.prog 41 #[.slice (some ⟨W.heap.size, 0, none⟩) 5 5] (W.alloc (.cells (ints .u8 [91, 49, 46, 53, 93]).toArray 5 (5, 6))) fun e w' => ∃ A c K d ev, e = .returned (.tuple #[.agg #[.int .i64 0, .int .i64 0, .string ⟨#[]⟩, .slice A 0 c, .slice K 0 d], ev]) ∧ JErr 50 2 ev w' ∧ Below W.heap.size W w' := by
  refine (parse_tells (some ⟨W.heap.size, 0, none⟩) tx3 5 5 _ rfl (by omega) byt3j (Lies.lit W _ _ _) (ha.marks.below (belowAlloc _ _)) (ha.tab.below (belowAlloc _ _))).mono ?_
  rintro e w' ⟨v, ev, rfl, hr, he, hb⟩
  rw [jp3] at hr he
  obtain ⟨vk, A, c, rfl, _, ⟨K, d, rfl, _, _⟩, _, _⟩ := hr.open
  exact ⟨A, c, K, d, ev, rfl, he, (belowAlloc W _).trans (hb.mono (belowAlloc W _).size)⟩
theorem alive_pr (W : World) (v : Value) (ha : Ask5 W) (hj : RepJ W jx1 v) : Calls Tryz.prog 42 #[v] W fun e w' => e = .returned (.tuple #[.string ⟨#[123, 34, 97, 34, 58, 91, 116, 114, 117, 101, 44, 34, 226, 130, 172, 34, 93, 44, 34, 98, 34, 58, 49, 125]⟩, .nilIface]) ∧ Below W.heap.size W w' := by
  refine (printJ_any jx1 v W hj (mild_of _ (by decide +kernel)) ha.marks).mono ?_
  rintro e w' ⟨rfl, _, hb⟩
  rw [pr1, str4]
  exact ⟨rfl, hb⟩
set_option maxRecDepth 100000 in
set_option maxHeartbeats 4000000 in
theorem alive5_any (w : World) (ha : Ask5 w) : Calls Tryz.prog 9 #[] w fun e w' => e = .returned (.bool true) ∧ Below w.heap.size w w' := by
  have kc := fun (w : World) (C : Array Value) (n c : Nat) => Lib.run_convert_bytes_const (P := Tryz.prog) w 80 5 C n c Tryz.underlying80 Tryz.underlying5
  have HA := Lib.hid ha
  clear ha
  go_enter Tryz.func9, Tryz.ntmps9
  go_wp2_with fail
  refine (alive_p1 _ HA.out).mono ?_
  rintro e w1 ⟨A, c, K, d, rfl, hr, hb⟩
  have HR := Lib.hid hr
  have HB1 := Lib.hid hb
  clear hr hb
  go_wp2_with (first | (refine wpList_alloc_blk rfl (some 1) rfl _ rfl _ zeroJs ?_; intro g1 wa1 hg1 hb1 hgr1; have HA1 := Lib.hid hgr1; have HG1 := Lib.hid hg1; clear hgr1 hg1; try go_frame) | (refine wpList_store_blk rfl none rfl _ (.tmp 1) _ rfl g1 0 [.int .i64 5, .int .i64 0, .string ⟨#[]⟩, .slice A 2 c, .slice K 2 d] rfl rfl _ _ hb1 (by simp [zeros5]) sizeJson (by intro v hv; simp at hv; rcases hv with rfl | rfl | rfl | rfl | rfl <;> rfl) ?_; intro ws1 hc1 hgs1; rw [splice_all _ _ (by simp [zeros5])] at hc1; have HS1 := Lib.hid (mid_below HB1.out HA1.out HG1.out hgs1); have HM1 := Lib.hid (mid_below (Below.refl _ _) HA1.out HG1.out hgs1); obtain ⟨x10, x11, x12, x13, x14⟩ : ws1.cell? ⟨g1, 0, none⟩ = some (.int .i64 5) ∧ ws1.cell? ⟨g1, 1, none⟩ = some (.int .i64 0) ∧ ws1.cell? ⟨g1, 2, none⟩ = some (.string ⟨#[]⟩) ∧ ws1.cell? ⟨g1, 3, none⟩ = some (.slice A 2 c) ∧ ws1.cell? ⟨g1, 4, none⟩ = some (.slice K 2 d) := ⟨hc1.cell 0, hc1.cell 1, hc1.cell 2, hc1.cell 3, hc1.cell 4⟩; have HK1 := Lib.hid hc1; clear hgs1 hc1; try go_frame))
  refine (alive_pr _ _ (HA.out.below HS1.out) (RepJ.below HM1.out _ _ HR.out)).mono ?_
  rintro e w2 ⟨rfl, hb⟩
  have HB2 := Lib.hid (HS1.out.trans (hb.mono HS1.out.size))
  clear hb
  go_wp2_with fail
  refine (alive_p2 _ (HA.out.below HB2.out)).mono ?_
  rintro e w3 ⟨A2, c2, K2, d2, ev2, rfl, he2, hb⟩
  have HB3 := Lib.hid (HB2.out.trans (hb.mono HB2.out.size))
  have HE2 := Lib.hid he2
  clear hb he2
  go_wp2_with (first | (refine wpList_alloc_blk rfl (some 5) rfl _ rfl _ zeroJs ?_; intro g5 wa5 hg5 hb5 hgr5; have HA5 := Lib.hid hgr5; have HG5 := Lib.hid hg5; clear hgr5 hg5; try go_frame) | (refine wpList_store_blk rfl none rfl _ (.tmp 5) _ rfl g5 0 [.int .i64 0, .int .i64 0, .string ⟨#[]⟩, .slice A2 0 c2, .slice K2 0 d2] rfl rfl _ _ hb5 (by simp [zeros5]) sizeJson (by intro v hv; simp at hv; rcases hv with rfl | rfl | rfl | rfl | rfl <;> rfl) ?_; intro ws5 hc5 hgs5; rw [splice_all _ _ (by simp [zeros5])] at hc5; have HS5 := Lib.hid (mid_below HB3.out HA5.out HG5.out hgs5); have HM5 := Lib.hid (mid_below (Below.refl _ _) HA5.out HG5.out hgs5); have HK5 := Lib.hid hc5; clear hgs5 hc5; try go_frame))
  refine (alive_p3 _ (HA.out.below HS5.out)).mono ?_
  rintro e w4 ⟨A3, c3, K3, d3, ev3, rfl, he3, hb⟩
  have HB4 := Lib.hid (HS5.out.trans (hb.mono HS5.out.size))
  have HE3 := Lib.hid he3
  have HE22 := Lib.hid (HE2.out.below (HM5.out.trans (hb.mono HM5.out.size)))
  clear hb he3
  go_wp2_with (first | (refine wpList_alloc_blk rfl (some 7) rfl _ rfl _ zeroJs ?_; intro g7 wa7 hg7 hb7 hgr7; have HA7 := Lib.hid hgr7; have HG7 := Lib.hid hg7; clear hgr7 hg7; try go_frame) | (refine wpList_store_blk rfl none rfl _ (.tmp 7) _ rfl g7 0 [.int .i64 0, .int .i64 0, .string ⟨#[]⟩, .slice A3 0 c3, .slice K3 0 d3] rfl rfl _ _ hb7 (by simp [zeros5]) sizeJson (by intro v hv; simp at hv; rcases hv with rfl | rfl | rfl | rfl | rfl <;> rfl) ?_; intro ws7 hc7 hgs7; rw [splice_all _ _ (by simp [zeros5])] at hc7; have HS7 := Lib.hid (mid_below HB4.out HA7.out HG7.out hgs7); have HM7 := Lib.hid (mid_below (Below.refl _ _) HA7.out HG7.out hgs7); have HK7 := Lib.hid hc7; clear hgs7 hc7; try go_frame))
  refine (numJ (HE22.out.below HM7.out) (HA.out.tab.below HS7.out)).mono ?_
  rintro e w5 ⟨rfl, hb5⟩
  have HB5 := Lib.hid (HS7.out.trans (hb5.mono HS7.out.size))
  have HM5' := Lib.hid (HM7.out.trans (hb5.mono HM7.out.size))
  clear hb5
  go_wp2_with fail
  refine (posJ (HE22.out.below HM5'.out) (HA.out.tab.below HB5.out)).mono ?_
  rintro e w6 ⟨rfl, hb6⟩
  have HB6 := Lib.hid (HB5.out.trans (hb6.mono HB5.out.size))
  have HM6 := Lib.hid (HM5'.out.trans (hb6.mono HM5'.out.size))
  clear hb6
  go_wp2_with fail
  refine (numJ (HE3.out.below HM6.out) (HA.out.tab.below HB6.out)).mono ?_
  rintro e w7 ⟨rfl, hb7⟩
  have HB7 := Lib.hid (HB6.out.trans (hb7.mono HB6.out.size))
  have HM7' := Lib.hid (HM6.out.trans (hb7.mono HM6.out.size))
  clear hb7
  go_wp2_with fail
  refine (posJ (HE3.out.below HM7'.out) (HA.out.tab.below HB7.out)).mono ?_
  rintro e w8 ⟨rfl, hb8⟩
  have HB8 := Lib.hid (HB7.out.trans (hb8.mono HB7.out.size))
  clear hb8
  go_wp2_with fail
  go_ret
  exact ⟨rfl, HB8.out⟩
end Go.Proofs.YtjfgmgkhinehaaaGreatDoor
namespace Go.Proofs.YtjfgmgkhinehaaaGreatDoor
open Go Go.RowKit
mutual
theorem sameJ_refl : ∀ j : J, sameJ j j = true
  | .mk k n s l m => by rw [sameJ, sameLs_refl l]; simp
theorem sameLs_refl : ∀ l : List J, sameLs l l = true
  | [] => by rw [sameLs]
  | x :: r => by rw [sameLs, sameJ_refl x, sameLs_refl r]; rfl
end
end Go.Proofs.YtjfgmgkhinehaaaGreatDoor
namespace Go.Proofs.YtjfgmgkhinehaaaGreatDoor
open Go Go.RowKit
theorem zeroJg : (Tryz.prog.info? 27).map (·.zero) = some (some (.agg zeros5.toArray)) := by kernel_rfl
def objJ (ms : List (ByteArray × J)) : J := .mk 5 0 ⟨#[]⟩ (putsL ms).2 (putsL ms).1
theorem RepC.takeG {W : World} {b : Nat} : ∀ (l : List J) (o i : Nat), RepC W b o l → RepC W b o (l.take i)
  | _, _, 0, _ => by rw [List.take_zero, RepC]; trivial
  | [], _, i + 1, h => by rw [List.take_nil]; exact h
  | x :: r, o, i + 1, h => by
    rw [RepC] at h
    rw [List.take_succ_cons, RepC]
    exact ⟨h.1, RepC.takeG r (o + 5) i h.2⟩
theorem sm_of_hgJ (a : J) : ∀ left, (hgJ a left).1 = false → Sm a := by
  induction a using J.ind with
  | h kind n s l k ih =>
    intro left h
    rw [hgJ_eq] at h
    by_cases h1 : left - 1 - min ((J.mk kind n s l k).k.length : Int) 5000 < 0 ∨ 5000 < (J.mk kind n s l k).s.size ∨ 1000 < (J.mk kind n s l k).k.length ∨ 1000 < (J.mk kind n s l k).l.length
    · rw [if_pos h1] at h; cases h
    rw [if_neg h1] at h
    by_cases h2 : ((J.mk kind n s l k).k.any fun t => decide (1000 < t.size)) = true
    · rw [if_pos h2] at h; cases h
    rw [if_neg h2] at h
    replace h1 : ¬ (left - 1 - min (k.length : Int) 5000 < 0 ∨ 5000 < s.size ∨ 1000 < k.length ∨ 1000 < l.length) := h1
    refine .mk (by omega) (by omega) ?_
    have key : ∀ (l : List J), (∀ x ∈ l, ∀ left, (hgJ x left).1 = false → Sm x) → ∀ left, (hgLs l left).1 = false → ∀ x ∈ l, Sm x := fun l => by
      induction l with
      | nil => intro _ _ _ x hx; cases hx
      | cons y r ihr =>
        intro ih left h x hx
        rw [hgLs] at h
        cases hb : (hgJ y left).1 with
        | true => rw [hb, if_pos rfl] at h; cases h
        | false =>
          rw [hb, if_neg (by simp)] at h
          rcases List.mem_cons.1 hx with rfl | hx
          · exact ih _ (by simp) left hb
          · exact ihr (fun z hz => ih z (List.mem_cons_of_mem _ hz)) _ h x hx
    exact key l ih _ h
theorem textJ_repG (t : ByteArray) (W : World) (ht : t.size ≤ 9223372036854775807) : RepJ W (textJ t) (.agg #[.int .i64 3, .int .i64 0, .string t, .slice none 0 0, .slice none 0 0]) := RepS.toJ _ _ (RepS.plain W (fun _ => True) 3 0 t ht)
theorem intJ_repG (n : Int) (W : World) : RepJ W (intJ n) (.agg #[.int .i64 2, .int .i64 n, .string ⟨#[]⟩, .slice none 0 0, .slice none 0 0]) := RepS.toJ _ _ (RepS.plain W (fun _ => True) 2 n ⟨#[]⟩ (by decide))
theorem boolJ_repG (W : World) : RepJ W (boolJ true) (.agg #[.int .i64 1, .int .i64 1, .string ⟨#[]⟩, .slice none 0 0, .slice none 0 0]) := RepS.toJ _ _ (RepS.plain W (fun _ => True) 1 1 ⟨#[]⟩ (by decide))
theorem kind_ne_same {a b : J} (h : a.kind ≠ b.kind) : sameJ a b = false := by
  cases hs : sameJ a b with
  | false => rfl
  | true => exact absurd (sameJ_iff.1 hs).1 h
set_option maxRecDepth 100000 in
set_option maxHeartbeats 16000000 in
theorem lawGets_any (ks : List ByteArray) (nA : Option Addr) (nn nc : Nat) (vs : List J) (vA : Option Addr) (vc m : Nat) (name : ByteArray) (W : World) (hk : RepK W ks (.slice nA nn nc)) (hv : vs ≠ [] → ∃ b o, vA = some ⟨b, o, none⟩ ∧ b < W.heap.size ∧ RepC W b o vs) (hvl : vs.length ≤ vc) (hvl2 : vs.length ≤ 9223372036854775807) (hm : m = vs.length) (hnm : name.size ≤ 9223372036854775807) (hA : Ask5 W) :
    Calls Tryz.prog 3 #[.slice nA nn nc, .slice vA m vc, .string name] W fun e w' => e = .returned (.bool true) ∧ Below W.heap.size W w' := by
  have HAL := Lib.hid (alive5_any W hA)
  obtain ⟨hnn, hgt⟩ := get_at hk hv
  have hnb : nn ≤ 9223372036854775807 := by
    obtain ⟨_, _, _, h, _⟩ := hk.open
    omega
  have HGT : Hid (∀ i, i < nn → i < m → GetAt W nA vA ks vs i) := Lib.hid fun i h1 h2 => hgt i (by omega) (by omega)
  have HLN : Hid (nn = ks.length ∧ m = vs.length ∧ vs.length ≤ vc ∧ nn ≤ 9223372036854775807 ∧ m ≤ 9223372036854775807) := Lib.hid ⟨hnn, hm, hvl, hnb, by omega⟩
  have hmb : m ≤ 9223372036854775807 := by omega
  have hmc : m ≤ vc := by omega
  have HV := Lib.hid hv
  have HNM := Lib.hid hnm
  obtain ⟨iM, hM, hM0, hM1, hM2⟩ := info_parts infoMp
  clear hA hk hv hgt hnn hm hvl hvl2 hnm
  go_enter Tryz.func3, Tryz.ntmps3
  go_wp2_with fail
  refine HAL.out.mono ?_
  rintro e w1 ⟨rfl, hb⟩
  have HB1 := Lib.hid hb
  clear hb HAL
  go_wp2_with (first
    | (refine wpList_alloc_blk rfl (some 8) rfl _ rfl _ zeroJg ?_; intro g8 wa8 hg8 hb8 hgr8; have HA8 := Lib.hid hgr8; have HG8 := Lib.hid hg8; clear hgr8 hg8; try go_frame)
    | (refine wpList_store_blk rfl none rfl _ (.tmp 8) (.tmp 20) rfl g8 0 [.int .i64 5, .int .i64 0, .string ⟨#[]⟩, .slice none 0 0, .slice none 0 0] rfl rfl _ _ hb8 (by simp [zeros5]) sizeJson (by intro v hv; simp at hv; rcases hv with rfl | rfl | rfl | rfl <;> rfl) ?_; intro ws8 hc8 hgs8; rw [splice_all _ _ (by simp [zeros5])] at hc8; have HM8 := Lib.hid (mid_below (Below.refl _ _) HA8.out HG8.out hgs8); have HC8 := Lib.hid hc8; obtain ⟨p80, p81, p82, p83, p84⟩ := five_cellsG hc8; clear hgs8 hb8 hc8; try go_frame)
    | fail)
  have HG0 : Hid (GInv w1 ws8 g8 [] (.slice none 0 0) [] (putsL [])) := Lib.hid (GInv.start HM8.out HG8.out HC8.out)
  have HGW : Hid (W.heap.size ≤ w1.heap.size) := Lib.hid HB1.out.size
  clear p80 p81 p82 p83 p84 HA8 HM8 HC8
  go_loopw [7, 9] (fun v7 v9 wr => ∃ i : Nat, v9 = .int .i64 (i : Int) ∧ i ≤ nn ∧ i ≤ m ∧ i ≤ 60 ∧ ∃ ms zs, ms.length = i ∧ Hid (GInv w1 wr g8 ms v7 zs (putsL ms)) ∧ Hid (ms = (ks.zip vs).take i ∧ ∀ x ∈ vs.take i, Sm x)) (fun _ v9 _ => 60 - (intOf v9).toNat)
  case atStart => exact ⟨0, rfl, Nat.zero_le _, Nat.zero_le _, Nat.zero_le _, [], [], rfl, HG0, Lib.hid ⟨rfl, fun x hx => by simp at hx⟩⟩
  case round =>
    obtain ⟨i, rfl, hin, him, hi60, ms, zs, hml, HG, HMS⟩ := hrel
    have HML := Lib.hid hml
    clear hml
    obtain ⟨C, hC⟩ : ∃ C, C = decide (i < nn ∧ i < m ∧ i < 60) := ⟨_, rfl⟩
    have HCC := Lib.hid hC
    clear hC
    go_upto_region 6 with fail
    go_cut [34] from 21 to 71 (fun v34 wx => v34 = .bool C ∧ wx = wr)
    case first =>
      by_cases c1 : i < nn
      · have d1 : (i : Int) < (nn : Int) := by omega
        by_cases c2 : i < m
        · have d2 : (i : Int) < (m : Int) := by omega
          by_cases c3 : i < 60
          · have d3 : (i : Int) < 60 := by omega
            have HC1 : Hid (C = true) := Lib.hid (by rw [HCC.out]; exact decide_eq_true ⟨c1, c2, c3⟩)
            clear c1 c2 c3
            go_wp2_with fail
            go_meet
            case rel => exact ⟨by rw [HC1.out], rfl⟩
          · have d3 : ¬ (i : Int) < 60 := by omega
            have HC1 : Hid (C = false) := Lib.hid (by rw [HCC.out]; exact decide_eq_false (fun h => c3 h.2.2))
            clear c1 c2 c3
            go_wp2_with fail
            go_meet
            case rel => exact ⟨by rw [HC1.out], rfl⟩
        · have d2 : ¬ (i : Int) < (m : Int) := by omega
          have HC1 : Hid (C = false) := Lib.hid (by rw [HCC.out]; exact decide_eq_false (fun h => c2 h.2.1))
          clear c1 c2
          go_wp2_with fail
          go_meet
          case rel => exact ⟨by rw [HC1.out], rfl⟩
      · have d1 : ¬ (i : Int) < (nn : Int) := by omega
        have HC1 : Hid (C = false) := Lib.hid (by rw [HCC.out]; exact decide_eq_false (fun h => c1 h.1))
        clear c1
        go_wp2_with fail
        go_meet
        case rel => exact ⟨by rw [HC1.out], rfl⟩
    case rest =>
      obtain ⟨rfl, hwx⟩ := hcut
      rw [hwx]
      clear hwx
      have HBW := Lib.hid (HB1.out.trans (HG.out.bel.mono HB1.out.size))
      cases hCc : C with
      | true =>
        have hci : i < nn ∧ i < m ∧ i < 60 := of_decide_eq_true (by rw [← HCC.out]; exact hCc)
        obtain ⟨c1, c2, c3⟩ := hci
        have k0 : (0 : Int) ≤ (i : Int) := by omega
        have k1 : (i : Int) < (nn : Int) := by omega
        have k2 : (i : Int) < (m : Int) := by omega
        obtain ⟨gn, on, gv, ov, t, x, y0, y1, y2, yA, yp, yc, yK, yq, yd, rfl, rfl, hgn, hgv, hzi, hts, hx, kc, l0, l1, l2, l3, l4⟩ := HGT.out i c1 c2
        have HSX : Hid (∀ X, Below W.heap.size W X → (X.cell? ⟨gn, on + i, none⟩ = some (.string t) ∧ X.cell? ⟨gv, ov + i * 5, none⟩ = some (.int .i64 y0) ∧ X.cell? ⟨gv, ov + i * 5 + 1, none⟩ = some (.int .i64 y1) ∧ X.cell? ⟨gv, ov + i * 5 + 2, none⟩ = some (.string y2) ∧ X.cell? ⟨gv, ov + i * 5 + 3, none⟩ = some (.slice yA yp yc) ∧ X.cell? ⟨gv, ov + i * 5 + 4, none⟩ = some (.slice yK yq yd))) := Lib.hid fun X hX => by
          have cc : ∀ b o u, b < W.heap.size → W.cell? ⟨b, o, none⟩ = some u → X.cell? ⟨b, o, none⟩ = some u := fun b o u hb h => (hX.cell (p := ⟨b, o, none⟩) hb).trans h
          exact ⟨cc _ _ _ hgn kc, cc _ _ _ hgv l0, cc _ _ _ hgv l1, cc _ _ _ hgv l2, cc _ _ _ hgv l3, cc _ _ _ hgv l4⟩
        have hzv : vs[i]? = some x := by
          have := (List.getElem?_zip_eq_some.1 hzi).2
          exact this
        have HRX := Lib.hid hx
        have HTS := Lib.hid hts
        have HZI := Lib.hid hzi
        have HZV := Lib.hid hzv
        have hgr := refGreat_any x _ wr (RepJ.below HBW.out _ _ hx)
        have HSMX := Lib.hid (sm_of_hgJ x 1000)
        obtain ⟨G, hG⟩ : ∃ G, G = (hgJ x 1000).1 := ⟨_, rfl⟩
        rw [← hG] at hgr HSMX
        have HGR := Lib.hid hgr
        obtain ⟨q0, l0, l1, l2, l3, l4⟩ := HSX.out wr HBW.out
        clear hCc hgr hG hzi hzv hx hts kc hgn hgv HCC
        cases G with
        | true =>
          go_wp2_with (go_at_call 10; (with_reducible refine HGR.out.mono ?_); rintro e w3 ⟨rfl, hb⟩; have HB3 := Lib.hid (HBW.out.trans (hb.mono HBW.out.size)); clear hb)
          go_ret
          exact ⟨rfl, HB3.out⟩
        | false =>
        go_wp2_with fail
        refine HGR.out.mono ?_
        rintro e w3 ⟨rfl, hb⟩
        have HB3 := Lib.hid (HBW.out.trans (hb.mono HBW.out.size))
        have HG3 := Lib.hid (HG.out.moved (grownBy_of_below hb none))
        obtain ⟨kc, l0, l1, l2, l3, l4⟩ := HSX.out w3 HB3.out
        clear hb HG HGR
        by_cases hsz : 1000 < t.size
        · have hI : (1000 : Int) < (t.size : Int) := by omega
          go_wp2
          go_ret
          exact ⟨rfl, HB3.out⟩
        have hI : ¬ (1000 : Int) < (t.size : Int) := by omega
        go_wp2_with fail
        obtain ⟨a, haa⟩ : ∃ a, a = ms.length := ⟨_, rfl⟩
        have ha60 : a ≤ 60 := by have := HML.out; omega
        have hai : a = i := by rw [haa]; exact HML.out
        have HOW3 := Lib.hid HG3.out.own
        rw [← haa] at HOW3
        obtain ⟨fz, hfz⟩ : ∃ f, f = flatM zs := ⟨_, rfl⟩
        rw [← hfz] at HOW3
        have HFZ := Lib.hid hfz
        have HAA := Lib.hid haa
        have hg8 : g8 < w3.heap.size := by obtain ⟨_, _, _, _, _, _, _, _, _, h, _⟩ := HG3.out.obj; exact h.lt
        have HXC : Hid (w3.grownBy (w3.drew.alloc (.cells #[.string t, .int .i64 y0, .int .i64 y1, .string y2, .slice yA yp yc, .slice yK yq yd] 30)) none) := Lib.hid ((grownBy_drew (grownBy_refl w3 none)).trans (World.grownBy_alloc _ _ none))
        have HNX : Hid ((w3.drew.alloc (.cells #[.string t, .int .i64 y0, .int .i64 y1, .string y2, .slice yA yp yc, .slice yK yq yd] 30)).heap[w3.heap.size]? = some (.cells #[.string t, .int .i64 y0, .int .i64 y1, .string y2, .slice yA yp yc, .slice yK yq yd] 30)) := Lib.hid (heap_alloc_new w3 _)
        have HBX := Lib.hid (HB3.out.grown HXC.out HB3.out.size (fun b hb => by cases hb))
        clear haa hfz kc l0 l1 l2 l3 l4
        refine wp_region_held_drew (S := fun X => (X.cell? ⟨gn, on + i, none⟩ = some (.string t) ∧ X.cell? ⟨gv, ov + i * 5, none⟩ = some (.int .i64 y0) ∧ X.cell? ⟨gv, ov + i * 5 + 1, none⟩ = some (.int .i64 y1) ∧ X.cell? ⟨gv, ov + i * 5 + 2, none⟩ = some (.string y2) ∧ X.cell? ⟨gv, ov + i * 5 + 3, none⟩ = some (.slice yA yp yc) ∧ X.cell? ⟨gv, ov + i * 5 + 4, none⟩ = some (.slice yK yq yd))) (by kernel_rfl) (HSX.out _ HB3.out.drew) (fun hHeld => ?_)
        refine rgT 0 ?_
        try simp only [rgS]
        refine rgT 1 ?_
        try simp only [rgS]
        refine rgT 2 ?_
        try simp only [rgS]
        refine rgT 3 ?_
        try simp only [rgS]
        refine rgT 4 ?_
        try simp only [rgS]
        refine rgT 5 ?_
        try simp only [rgS]
        refine rgT 6 ?_
        try simp only [rgS]
        refine rgT 7 ?_
        try simp only [rgS]
        refine rgT 8 ?_
        try simp only [rgS]
        refine rgO 9 (fun K hK => ?_)
        rw [if_pos (by kernel_rfl)]
        refine wp_build_ofG 30 _ rfl [(0, .string t), (1, .agg #[.int .i64 y0, .int .i64 y1, .string y2, .slice yA yp yc, .slice yK yq yd])] _ (by kernel_rfl) (built_membG t y2 y0 y1 yA yK yp yc yq yd) ?_
        refine hK.out _ _ (HSX.out _ HB3.out.drew) (fun hHa => ?_)
        clear hK K hHeld
        try simp only [rgS]
        refine rgO 10 (fun K hK => ?_)
        rw [if_pos (by kernel_rfl)]
        refine wp_slice_membG _ rfl t y2 y0 y1 yA yK yp yc yq yd (by kernel_rfl) ?_
        refine hK.out _ _ (HSX.out _ HBX.out) (fun hHb => ?_)
        clear hK K hHa
        try simp only [rgS]
        refine rgO 11 (fun K hK => ?_)
        refine step_append_lies _ (by rfl) _ _ _ (by rfl) (g8 + 1) 30 iM (.agg #[.string ⟨#[]⟩, .int .i64 0, .int .i64 0, .string ⟨#[]⟩, .slice none 0 0, .slice none 0 0]) 6 96 Tryz.underlying25 hM hM0 hM1 hM2 rfl (by omega) _ a fz (by rfl) (HOW3.out.kept HXC.out (Classical.em _)) ⟨w3.heap.size, 0, none⟩ 1 1 [.string t, .int .i64 y0, .int .i64 y1, .string y2, .slice yA yp yc, .slice yK yq yd] (by rfl) (by rfl) (World.news_of_block (cs := #[.string t, .int .i64 y0, .int .i64 y1, .string y2, .slice yA yp yc, .slice yK yq yd]) (t := 30) (fr := (0, 0)) HNX.out) (by simp [Value.oneCell']) (by omega) (by unfold maxLen; omega) (by omega) (by simp; omega) (w3.heap.size + 1) (by simp) ?_
        intro g5 cap5 w5 hown5 hgrow5 hat5 hlt5
        have hbx5 : Below W.heap.size W w5 := HBX.out.grown hgrow5 HBX.out.size (fun b hb => by have := (HOW3.out.lt b hb).1; have := HG8.out; have := HGW.out; omega)
        refine hK.out _ _ (HSX.out _ hbx5) (fun hHc => ?_)
        have HG5 := Lib.hid (HG3.out.add (n := a + 1) HXC.out HTS.out (RepS.keeps (T := fun b => b < w1.heap.size) (Keeps.below HB3.out (fun b _ h => h)) (fun b _ h => Nat.lt_of_lt_of_le h HGW.out) _ _ (RepS.ofJ _ _ HRX.out)) hgrow5 (by rw [HAA.out]) (by rw [← HFZ.out]; exact hown5) (hat5.imp_right (fun h => by rw [h]; simp)))
        have HB5 := Lib.hid hbx5
        clear hK K hHb hown5 hgrow5 hat5 hlt5 hbx5 hg8
        try simp only [rgS]
        refine rgT 12 ?_
        try simp only [rgS]
        refine wpAnyH_done (by kernel_rfl) ?_ _
        clear hHc
        obtain ⟨z0, z1, z2, zA, zp, zc, zK, zq, zd, hblk, hrep⟩ := HG5.out.obj
        obtain ⟨f0, f1, f2, f3, f4⟩ := five_cellsG hblk
        obtain ⟨kc, l0, l1, l2, l3, l4⟩ := HSX.out w5 HB5.out
        have HBLK := Lib.hid hblk
        have HREP := Lib.hid hrep
        have hg8 := hblk.lt
        have HPL := Lib.hid (putsL_lenG a ms HAA.out.symm)
        obtain ⟨P, hP⟩ : ∃ P, P = putsL ms := ⟨_, rfl⟩
        rw [← hP] at HREP HPL HG5
        have HPP := Lib.hid hP
        have HX5 := Lib.hid (RepS.keeps (T := fun b => b < W.heap.size) (Keeps.below HB5.out (fun b _ h => h)) (fun b _ h => h) _ _ (RepS.ofJ _ _ HRX.out))
        clear hblk hrep hP
        go_wp2_with fail
        clear kc l0 l1 l2 l3 l4
        refine wp_region_held_drew (S := fun X => (X.cell? ⟨gn, on + i, none⟩ = some (.string t) ∧ X.cell? ⟨gv, ov + i * 5, none⟩ = some (.int .i64 y0) ∧ X.cell? ⟨gv, ov + i * 5 + 1, none⟩ = some (.int .i64 y1) ∧ X.cell? ⟨gv, ov + i * 5 + 2, none⟩ = some (.string y2) ∧ X.cell? ⟨gv, ov + i * 5 + 3, none⟩ = some (.slice yA yp yc) ∧ X.cell? ⟨gv, ov + i * 5 + 4, none⟩ = some (.slice yK yq yd))) (by kernel_rfl) (HSX.out _ HB5.out.drew) (fun hHeld => ?_)
        refine rgT 1 ?_
        try simp only [rgS]
        refine rgT 2 ?_
        try simp only [rgS]
        refine rgT 3 ?_
        try simp only [rgS]
        refine rgT 4 ?_
        try simp only [rgS]
        refine rgT 5 ?_
        try simp only [rgS]
        refine rgT 6 ?_
        try simp only [rgS]
        refine rgT 7 ?_
        try simp only [rgS]
        refine rgT 8 ?_
        try simp only [rgS]
        refine rgO 0 (fun K hK => ?_)
        go_simp
        refine hK.out _ _ (HSX.out _ HB5.out.drew) (fun hH1 => ?_)
        clear hK K hHeld f0 f1 f2 f3 f4
        try simp only [rgS]
        refine rgO 9 (fun K hK => ?_)
        go_simp
        have hdr : Below w5.heap.size w5 w5.drew := (Below.refl _ w5).drew
        obtain ⟨vl, hvl⟩ : ∃ v, v = Value.slice (some ⟨g5, 0, none⟩) (i + 1) cap5 := ⟨_, rfl⟩
        rw [hai, ← hvl] at HG5 HREP
        have hput := refPut_obj 5 0 ⟨#[]⟩ P.1 P.2 t x (.agg #[.int .i64 z0, .int .i64 z1, .string z2, .slice zA zp zc, .slice zK zq zd]) (.agg #[.int .i64 y0, .int .i64 y1, .string y2, .slice yA yp yc, .slice yK yq yd]) w5.drew (fun b => b ≠ g8 ∧ vl.ownBlock ≠ some b ∧ b < w5.heap.size) (fun b h => Nat.lt_of_lt_of_le h.2.2 hdr.size) (RepS.keeps (Keeps.below hdr (fun b h _ => h.2.2)) (fun b h _ => h) _ _ HREP.out) (RepS.keeps (Keeps.below hdr (fun b h _ => Nat.lt_of_lt_of_le h HB5.out.size)) (fun b h _ => ⟨by have := HG8.out; have := HGW.out; omega, fun e => by have := (HG5.out.own.lt b e).1; have := HG8.out; have := HGW.out; omega, Nat.lt_of_lt_of_le h HB5.out.size⟩) _ _ HX5.out) HPL.out.1 (by have := HPL.out.2; omega) HTS.out
        refine hput.mono ?_
        clear hput
        rintro e wB ⟨v', rfl, hrB, hbB⟩
        obtain ⟨u0, u1, u2, uA, up, uc, uK, uq, ud, rfl⟩ := (RepS.toJ _ _ hrB).form
        have hrwB : Below w5.heap.size w5 wB := hdr.trans (hbB.mono hdr.size)
        have hWB := HB5.out.trans (hrwB.mono HB5.out.size)
        have hblkB := HBLK.out.below hrwB hg8
        refine hK.out _ _ (HSX.out _ hWB) (fun hH2 => ?_)
        have HRB : Hid (RepS wB (fun b => (b ≠ g8 ∧ vl.ownBlock ≠ some b ∧ b < w5.heap.size) ∨ w5.heap.size ≤ b) (.mk 5 0 ⟨#[]⟩ (putKL t x false P.1 P.2).2 (putKL t x false P.1 P.2).1) (.agg #[.int .i64 u0, .int .i64 u1, .string u2, .slice uA up uc, .slice uK uq ud])) := Lib.hid (RepS.keeps (Keeps.refl _ wB) (fun b (h : _ ∨ w5.drew.heap.size ≤ b) _ => h.imp_right (fun h => Nat.le_trans hdr.size h)) _ _ hrB)
        have HRW := Lib.hid hrwB
        have HWB := Lib.hid hWB
        clear hK K hH1 hrB hbB hrwB hWB hdr
        try simp only [rgS]
        refine rgO 10 (fun K hK => ?_)
        rw [if_pos (by kernel_rfl)]
        refine wp_store_row 27 (.tmp 8) (.tmp 71) rfl g8 0 [.int .i64 u0, .int .i64 u1, .string u2, .slice uA up uc, .slice uK uq ud] rfl rfl _ _ hblkB (by simp) sizeJson (by intro v hv; simp at hv; rcases hv with rfl | rfl | rfl | rfl | rfl <;> rfl) ?_
        intro wC hbC hgC
        rw [splice_all _ _ (by simp)] at hbC
        have hWC := HWB.out.grown hgC HWB.out.size (by intro b e; injection e with e; have := HG8.out; have := HGW.out; omega)
        refine hK.out _ _ (HSX.out _ hWC) (fun hH3 => ?_)
        have HF : Hid (GInv w1 wC g8 (ms ++ [(t, x)]) vl (zs ++ [⟨t, .int .i64 y0, .int .i64 y1, .string y2, .slice yA yp yc, .slice yK yq yd⟩]) (putsL (ms ++ [(t, x)]))) := Lib.hid (by
          rw [putsL_snoc, ← HPP.out]
          exact HG5.out.put HRW.out HRB.out hgC hbC)
        have HM2 : Hid (ms ++ [(t, x)] = (ks.zip vs).take (i + 1) ∧ ∀ y ∈ vs.take (i + 1), Sm y) := Lib.hid (by
          have hz := HZI.out
          have hzl : i < (ks.zip vs).length := (List.getElem?_eq_some_iff.1 hz).1
          have hvz := HZV.out
          have hvl' : i < vs.length := (List.getElem?_eq_some_iff.1 hvz).1
          rw [List.getElem?_eq_getElem hzl] at hz
          rw [List.getElem?_eq_getElem hvl'] at hvz
          injection hz with hz
          injection hvz with hvz
          refine ⟨by rw [List.take_succ_eq_append_getElem hzl, hz, ← HMS.out.1], fun y hy => ?_⟩
          rw [List.take_succ_eq_append_getElem hvl', hvz] at hy
          rcases List.mem_append.1 hy with hy | hy
          · exact HMS.out.2 y hy
          · obtain rfl : y = x := by simpa using hy
            exact (by first | exact HSMX.out rfl | exact HSMX.out trivial | exact HSMX.out))
        clear hK K hH2 hbC hgC hWC hblkB
        try simp only [rgS]
        refine wpAnyH_done (by kernel_rfl) ?_ _
        rw [← hvl]
        clear hH3 hvl
        go_wp2_with fail
        go_roundw
        case rel => exact ⟨i + 1, by go_num, by omega, by omega, by omega, _, _, by rw [List.length_append, List.length_singleton, HML.out], HF, HM2⟩
        case measure => simp [intOf]; omega
      | false =>
        have hown := HG.out.own
        rw [HML.out] at hown
        obtain ⟨A7, c7, hu⟩ := own_slice hown
        subst hu
        have hSm : ∀ p ∈ ms, Sm p.2 := fun p hp => by
          rw [HMS.out.1] at hp
          obtain ⟨q, hq, rfl⟩ := List.mem_iff_getElem.1 hp
          rw [List.length_take, List.length_zip] at hq
          rw [List.getElem_take, List.getElem_zip]
          have e : vs[q]'(by omega) = (vs.take i)[q]'(by rw [List.length_take]; omega) := by rw [List.getElem_take]
          show Sm (vs[q]'(by omega))
          rw [e]
          exact HMS.out.2 _ (List.getElem_mem _)
        have HOB := Lib.hid (objG_of ms (by rw [HML.out]; omega) hSm wr _ zs (fun b => b < w1.heap.size) (fun b h => Nat.lt_of_lt_of_le h HG.out.bel.size) HG.out.fl (own_row HG.out.own HG.out.fl.length))
        obtain ⟨z0, z1, z2, zA, zp, zc, zK, zq, zd, hblk, hrep⟩ := HG.out.obj
        have HZJ : Hid (RepJ wr (objJ ms) (.agg #[.int .i64 z0, .int .i64 z1, .string z2, .slice zA zp zc, .slice zK zq zd])) := Lib.hid (RepS.toJ _ _ hrep)
        have HBZ := Lib.hid hblk
        have HSJ : Hid (∀ x ∈ (objJ ms).l, Sm x) := Lib.hid fun x hx => by
          obtain ⟨p, hp, rfl⟩ := puts_mem _ ms rfl x hx
          exact hSm p hp
        have HLS : Hid (∀ X, Below W.heap.size W X → vs.take i ≠ [] → ∃ b o, vA = some ⟨b, o, none⟩ ∧ b < X.heap.size ∧ RepC X b o (vs.take i)) := Lib.hid fun X hX hne => by
          obtain ⟨b, o, h1, h2, h3⟩ := HV.out (fun e => hne (by rw [e, List.take_nil]))
          exact ⟨b, o, h1, Nat.lt_of_lt_of_le h2 hX.size, RepC.below hX h2 _ _ (RepC.takeG vs o i h3)⟩
        have HLL : Hid ((vs.take i).length = i) := Lib.hid (by rw [List.length_take]; have := HLN.out.2.1; omega)
        have HLM := Lib.hid HMS.out.2
        have hmin : min (i : Int) (m : Int) = (i : Int) := by omega
        have hic : i ≤ vc := by omega
        obtain ⟨jj, hjj⟩ : ∃ j, j = objJ ms := ⟨_, rfl⟩
        have HJK : Hid (jj.kind = 5) := Lib.hid (by rw [hjj]; rfl)
        rw [← hjj] at HZJ HSJ
        unfold objJ at hjj
        rw [← hjj] at HOB
        clear hCc hSm hown hblk hrep hjj HCC HG HMS HML HGT
        go_wp2_with fail
        refine HOB.out.mono ?_
        rintro e w5 ⟨v', rfl, hr5, hb⟩
        have hr5 := RepS.toJ _ _ hr5
        obtain ⟨o0, o1, o2, oA, op, oc, oK, oq, od, rfl⟩ := hr5.form
        have HB5 := Lib.hid (HBW.out.trans (hb.mono HBW.out.size))
        have HBZ5 := Lib.hid (HBZ.out.below hb HBZ.out.lt)
        have HZJ5 := Lib.hid (RepJ.below hb _ _ HZJ.out)
        have HR5 := Lib.hid hr5
        clear hb hr5 HOB
        go_wp2_with (first
          | (refine wpList_alloc_blk rfl (some 10) rfl _ rfl _ zeroJg ?_; intro g10 wa10 hg10 hb10 hgr10; have HA10 := Lib.hid hgr10; have HG10 := Lib.hid hg10; clear hgr10 hg10; try go_frame)
          | (refine wpList_store_blk rfl none rfl _ (.tmp 10) (.tmp 73) rfl g10 0 [.int .i64 o0, .int .i64 o1, .string o2, .slice oA op oc, .slice oK oq od] rfl rfl _ _ hb10 (by simp [zeros5]) sizeJson (by intro v hv; simp at hv; rcases hv with rfl | rfl | rfl | rfl | rfl <;> rfl) ?_; intro ws10 hc10 hgs10; rw [splice_all _ _ (by simp [zeros5])] at hc10; have HM10 := Lib.hid (mid_below (Below.refl _ _) HA10.out HG10.out hgs10); have HC10 := Lib.hid hc10; obtain ⟨p100, p101, p102, p103, p104⟩ := five_cellsG hc10; clear hgs10 hb10 hc10; try go_frame)
          | (go_at_call 13; fail))
        have HB6 := Lib.hid (HB5.out.trans (HM10.out.mono HB5.out.size))
        have HBZ6 := Lib.hid (HBZ5.out.below HM10.out HBZ5.out.lt)
        have HZJ6 := Lib.hid (RepJ.below HM10.out _ _ HZJ5.out)
        have HR6 := Lib.hid (RepJ.below HM10.out _ _ HR5.out)
        refine (get_any jj _ name _ HR6.out HSJ.out).mono ?_
        rintro e w7 ⟨v', rfl, hr7, hb⟩
        obtain ⟨x0, x1, x2, xA, xp, xc, xK, xq, xd, rfl⟩ := hr7.form
        have HB7 := Lib.hid (HB6.out.trans (hb.mono HB6.out.size))
        have HBZ7 := Lib.hid (HBZ6.out.below hb HBZ6.out.lt)
        have HZJ7 := Lib.hid (RepJ.below hb _ _ HZJ6.out)
        have HR7 := Lib.hid (RepJ.below hb _ _ HR6.out)
        have HO7 := Lib.hid (HC10.out.below hb HC10.out.lt)
        have HX7 := Lib.hid hr7
        obtain ⟨B, hB⟩ : ∃ b, b = (getJ jj name).isSome := ⟨_, rfl⟩
        rw [← hB]
        have HBB := Lib.hid hB
        clear hb hr7 hB p100 p101 p102 p103 p104
        go_wp2_with (first
          | (refine wpList_alloc_blk rfl (some 11) rfl _ rfl _ zeroJg ?_; intro g11 wa11 hg11 hb11 hgr11; have HA11 := Lib.hid hgr11; have HG11 := Lib.hid hg11; clear hgr11 hg11; try go_frame)
          | (refine wpList_store_blk rfl none rfl _ (.tmp 11) (.tmp 78) rfl g11 0 [.int .i64 x0, .int .i64 x1, .string x2, .slice xA xp xc, .slice xK xq xd] rfl rfl _ _ hb11 (by simp [zeros5]) sizeJson (by intro v hv; simp at hv; rcases hv with rfl | rfl | rfl | rfl | rfl <;> rfl) ?_; intro ws11 hc11 hgs11; rw [splice_all _ _ (by simp [zeros5])] at hc11; have HM11 := Lib.hid (mid_below (Below.refl _ _) HA11.out HG11.out hgs11); have HC11 := Lib.hid hc11; obtain ⟨p110, p111, p112, p113, p114⟩ := five_cellsG hc11; obtain ⟨q0, q1, q2, q3, q4⟩ := five_cellsG (HBZ7.out.below HM11.out HBZ7.out.lt); clear hgs11 hb11 hc11; try go_frame)
          | (go_at_call 14; fail))
        have HB8 := Lib.hid (HB7.out.trans (HM11.out.mono HB7.out.size))
        refine (refGet_any jj _ name _ (RepJ.below HM11.out _ _ HZJ7.out) HNM.out).mono ?_
        rintro e w9 ⟨v', rfl, hr9, hb⟩
        obtain ⟨y0, y1, y2, yA, yp, yc, yK, yq, yd, rfl⟩ := hr9.form
        rw [← HBB.out]
        have hb79 := HM11.out.trans (hb.mono HM11.out.size)
        have HB9 := Lib.hid (HB8.out.trans (hb.mono HB8.out.size))
        have HBZ9 := Lib.hid (HBZ7.out.below hb79 HBZ7.out.lt)
        have HZJ9 := Lib.hid (RepJ.below hb79 _ _ HZJ7.out)
        have HR9 := Lib.hid (RepJ.below hb79 _ _ HR7.out)
        have HO9 := Lib.hid (HO7.out.below hb79 HO7.out.lt)
        have HXC9 := Lib.hid (HC11.out.below hb HC11.out.lt)
        have HX9 := Lib.hid (RepJ.below hb79 _ _ HX7.out)
        have HY9 := Lib.hid hr9
        clear hb hb79 hr9 p110 p111 p112 p113 p114 q0 q1 q2 q3 q4
        go_wp2_with (first
          | (refine wpList_alloc_blk rfl (some 13) rfl _ rfl _ zeroJg ?_; intro g13 wa13 hg13 hb13 hgr13; have HA13 := Lib.hid hgr13; have HG13 := Lib.hid hg13; clear hgr13 hg13; try go_frame)
          | (refine wpList_store_blk rfl none rfl _ (.tmp 13) (.tmp 84) rfl g13 0 [.int .i64 y0, .int .i64 y1, .string y2, .slice yA yp yc, .slice yK yq yd] rfl rfl _ _ hb13 (by simp [zeros5]) sizeJson (by intro v hv; simp at hv; rcases hv with rfl | rfl | rfl | rfl | rfl <;> rfl) ?_; intro ws13 hc13 hgs13; rw [splice_all _ _ (by simp [zeros5])] at hc13; have HM13 := Lib.hid (mid_below (Below.refl _ _) HA13.out HG13.out hgs13); have HC13 := Lib.hid hc13; obtain ⟨p130, p131, p132, p133, p134⟩ := five_cellsG hc13; obtain ⟨q0, q1, q2, q3, q4⟩ := five_cellsG (HBZ9.out.below HM13.out HBZ9.out.lt); obtain ⟨r0, r1, r2, r3, r4⟩ := five_cellsG (HO9.out.below HM13.out HO9.out.lt); clear hgs13 hb13 hc13; try go_frame)
          | (go_at_call 15; fail))
        have HB10 := Lib.hid (HB9.out.trans (HM13.out.mono HB9.out.size))
        have hs := refSame_any jj jj _ _ _ (RepJ.below HM13.out _ _ HR9.out) (RepJ.below HM13.out _ _ HZJ9.out)
        rw [sameJ_refl] at hs
        refine hs.mono ?_
        rintro e w11 ⟨rfl, hb⟩
        have hb911 := HM13.out.trans (hb.mono HM13.out.size)
        have HB11 := Lib.hid (HB10.out.trans (hb.mono HB10.out.size))
        have HR11 := Lib.hid (RepJ.below hb911 _ _ HR9.out)
        have HO11 := Lib.hid (HO9.out.below hb911 HO9.out.lt)
        have HX11 := Lib.hid (RepJ.below hb911 _ _ HX9.out)
        have HY11 := Lib.hid (RepJ.below hb911 _ _ HY9.out)
        obtain ⟨q0, q1, q2, q3, q4⟩ := five_cellsG (HXC9.out.below hb911 HXC9.out.lt)
        obtain ⟨r0, r1, r2, r3, r4⟩ := five_cellsG (HC13.out.below hb HC13.out.lt)
        clear hs hb hb911 p130 p131 p132 p133 p134
        go_wp2_with fail
        have hs := refSame_any ((getJ jj name).getD zeroJ) _ _ _ _ HX11.out HY11.out
        rw [sameJ_refl] at hs
        refine hs.mono ?_
        rintro e w12 ⟨rfl, hb⟩
        have HB12 := Lib.hid (HB11.out.trans (hb.mono HB11.out.size))
        have HR12 := Lib.hid (RepJ.below hb _ _ HR11.out)
        have HO12 := Lib.hid (HO11.out.below hb HO11.out.lt)
        clear hs hb q0 q1 q2 q3 q4 r0 r1 r2 r3 r4
        go_wp2_with fail
        have hls := list_anyJ (vs.take i) (by rw [HLL.out]; omega) HLM.out w12 vA vc (HLS.out w12 HB12.out)
        rw [HLL.out] at hls
        refine hls.mono ?_
        clear hls
        rintro e w13 ⟨v', rfl, hr13, hb⟩
        have hr13 := RepS.toJ _ _ hr13
        obtain ⟨l0, l1, l2, lA, lp, lc, lK, lq, ld, rfl⟩ := hr13.form
        have hpt := hr13.parts
        have hl0 : l0 = 4 := hpt.1
        have hlp : lp = i := hpt.2.2.2.1.trans HLL.out
        subst hl0
        subst hlp
        have HB13 := Lib.hid (HB12.out.trans (hb.mono HB12.out.size))
        have HR13 := Lib.hid (RepJ.below hb _ _ HR12.out)
        have HO13 := Lib.hid (HO12.out.below hb HO12.out.lt)
        have HL13 := Lib.hid hr13
        clear hb hr13 hpt
        go_wp2_with (first
          | (refine wpList_alloc_blk rfl (some 15) rfl _ rfl _ zeroJg ?_; intro g15 wa15 hg15 hb15 hgr15; have HA15 := Lib.hid hgr15; have HG15 := Lib.hid hg15; clear hgr15 hg15; try go_frame)
          | (refine wpList_store_blk rfl none rfl _ (.tmp 15) (.tmp 108) rfl g15 0 [.int .i64 4, .int .i64 l1, .string l2, .slice lA lp lc, .slice lK lq ld] rfl rfl _ _ hb15 (by simp [zeros5]) sizeJson (by intro v hv; simp at hv; rcases hv with rfl | rfl | rfl | rfl | rfl <;> rfl) ?_; intro ws15 hc15 hgs15; rw [splice_all _ _ (by simp [zeros5])] at hc15; have HM15 := Lib.hid (mid_below (Below.refl _ _) HA15.out HG15.out hgs15); have HC15 := Lib.hid hc15; obtain ⟨p150, p151, p152, p153, p154⟩ := five_cellsG hc15; clear hgs15 hb15 hc15; try go_frame)
          | (go_at_call 13; fail))
        have HB14 := Lib.hid (HB13.out.trans (HM15.out.mono HB13.out.size))
        refine (get_any (listJ (vs.take lp)) _ name _ (RepJ.below HM15.out _ _ HL13.out) HLM.out).mono ?_
        rintro e w15 ⟨v', rfl, hr15, hb⟩
        rw [show (getJ (listJ (vs.take lp)) name).isSome = false from rfl]
        obtain ⟨j0, j1, j2, jA, jp, jc, jK, jq, jd, rfl⟩ := hr15.form
        have hb1315 := HM15.out.trans (hb.mono HM15.out.size)
        have HB15 := Lib.hid (HB14.out.trans (hb.mono HB14.out.size))
        have HR15 := Lib.hid (RepJ.below hb1315 _ _ HR13.out)
        have HO15 := Lib.hid (HO13.out.below hb1315 HO13.out.lt)
        have HL15 := Lib.hid (RepJ.below hb1315 _ _ HL13.out)
        have HM15C := Lib.hid (HC15.out.below hb HC15.out.lt)
        clear hb hr15 hb1315 p150 p151 p152 p153 p154
        go_wp2_with (first
          | (refine wpList_alloc_blk rfl (some 16) rfl _ rfl _ zeroJg ?_; intro g16 wa16 hg16 hb16 hgr16; have HA16 := Lib.hid hgr16; have HG16 := Lib.hid hg16; clear hgr16 hg16; try go_frame)
          | (refine wpList_store_blk rfl none rfl _ (.tmp 16) (.tmp 113) rfl g16 0 [.int .i64 j0, .int .i64 j1, .string j2, .slice jA jp jc, .slice jK jq jd] rfl rfl _ _ hb16 (by simp [zeros5]) sizeJson (by intro v hv; simp at hv; rcases hv with rfl | rfl | rfl | rfl | rfl <;> rfl) ?_; intro ws16 hc16 hgs16; rw [splice_all _ _ (by simp [zeros5])] at hc16; have HM16 := Lib.hid (mid_below (Below.refl _ _) HA16.out HG16.out hgs16); have HC16 := Lib.hid hc16; obtain ⟨p160, p161, p162, p163, p164⟩ := five_cellsG hc16; obtain ⟨q0, q1, q2, q3, q4⟩ := five_cellsG (HM15C.out.below HM16.out HM15C.out.lt); clear hgs16 hb16 hc16; try go_frame)
          | (go_at_call 18; fail))
        have HB16 := Lib.hid (HB15.out.trans (HM16.out.mono HB15.out.size))
        refine (text_any name _ HNM.out).mono ?_
        rintro e w17 ⟨rfl, hb⟩
        have hb1 := HM16.out.trans (hb.mono HM16.out.size)
        have HB17 := Lib.hid (HB16.out.trans (hb.mono HB16.out.size))
        clear hb p160 p161 p162 p163 p164 q0 q1 q2 q3 q4
        have HE1 := Lib.hid hb1
        clear hb1
        go_wp2_with fail
        have hs := same_any (textJ name) (textJ name) _ _ w17 (textJ_repG name w17 HNM.out) (textJ_repG name w17 HNM.out)
        rw [sameJ_refl] at hs
        refine hs.mono ?_
        rintro e w18 ⟨rfl, hb⟩
        have HE2 := Lib.hid (HE1.out.trans (hb.mono HE1.out.size))
        have HB18 := Lib.hid (HB17.out.trans (hb.mono HB17.out.size))
        clear hs hb
        go_wp2_with fail
        refine (int_any 7 _).mono ?_
        rintro e w19 ⟨rfl, hb⟩
        have HE3 := Lib.hid (HE2.out.trans (hb.mono HE2.out.size))
        have HB19 := Lib.hid (HB18.out.trans (hb.mono HB18.out.size))
        clear hb
        go_wp2_with fail
        have hs := same_any (intJ 7) (intJ 7) _ _ w19 (intJ_repG 7 w19) (intJ_repG 7 w19)
        rw [sameJ_refl] at hs
        refine hs.mono ?_
        rintro e w20 ⟨rfl, hb⟩
        have HE4 := Lib.hid (HE3.out.trans (hb.mono HE3.out.size))
        have HB20 := Lib.hid (HB19.out.trans (hb.mono HB19.out.size))
        clear hs hb
        go_wp2_with fail
        refine (bool_any true _).mono ?_
        rintro e w21 ⟨rfl, hb⟩
        have HE5 := Lib.hid (HE4.out.trans (hb.mono HE4.out.size))
        have HB21 := Lib.hid (HB20.out.trans (hb.mono HB20.out.size))
        clear hb
        go_wp2_with fail
        have hs := same_any (boolJ true) (boolJ true) _ _ w21 (boolJ_repG w21) (boolJ_repG w21)
        rw [sameJ_refl] at hs
        refine hs.mono ?_
        rintro e w22 ⟨rfl, hb⟩
        have hE := HE5.out.trans (hb.mono HE5.out.size)
        have HB22 := Lib.hid (HB21.out.trans (hb.mono HB21.out.size))
        have HR22 := Lib.hid (RepJ.below hE _ _ HR15.out)
        have HL22 := Lib.hid (RepJ.below hE _ _ HL15.out)
        obtain ⟨q0, q1, q2, q3, q4⟩ := five_cellsG (HO15.out.below hE HO15.out.lt)
        obtain ⟨r0, r1, r2, r3, r4⟩ := five_cellsG (HM15C.out.below hE HM15C.out.lt)
        clear hs hb hE
        go_wp2_with fail
        have hs := same_any jj (listJ (vs.take lp)) _ _ w22 HR22.out HL22.out
        rw [kind_ne_same (by rw [HJK.out]; show (5 : Int) ≠ 4; decide)] at hs
        refine hs.mono ?_
        rintro e w23 ⟨rfl, hb⟩
        have HB23 := Lib.hid (HB22.out.trans (hb.mono HB22.out.size))
        clear hs hb
        go_wp2
        go_ret
        exact ⟨rfl, HB23.out⟩
end Go.Proofs.YtjfgmgkhinehaaaGreatDoor
namespace Go.Proofs.YtjfgmgkhinehaaaGreatDoor
open Go Go.RowKit
theorem lawGets_v (ks : List ByteArray) (v : Value) (vs : List J) (vA : Option Addr) (vc : Nat) (name : ByteArray) (W : World) (hk : RepK W ks v) (hvl : vs.length ≤ vc) (hvl2 : vs.length ≤ 9223372036854775807) (hv : vs ≠ [] → ∃ b o, vA = some ⟨b, o, none⟩ ∧ b < W.heap.size ∧ RepC W b o vs) (hnm : name.size ≤ 9223372036854775807) (hA : Ask5 W) :
    Calls Tryz.prog 3 #[v, .slice vA vs.length vc, .string name] W fun e w' => e = .returned (.bool true) ∧ Below W.heap.size W w' := by
  have hk2 := hk
  obtain ⟨A, c, rfl, _⟩ := hk
  exact lawGets_any ks A ks.length c vs vA vc vs.length name W hk2 hv hvl hvl2 rfl hnm hA
end Go.Proofs.YtjfgmgkhinehaaaGreatDoor
