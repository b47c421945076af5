/- JpLaw, JsonAlive, JsonForm, JsonLawB, JoKit, JoMemb: merged. -/
import Derived.Lib.SlBytesConst
import Derived.Great.BuildSlice
import Derived.Test.YtlcljphbldjieaaGreatDoorJo34
import Derived.Test.YtlcljphbldjieaaGreatDoorJo37
set_option linter.all false
namespace Go.Proofs.YtlcljphbldjieaaGreatDoor
open Go Go.RowKit
/-- What an error tells: none; a number alone; a number and a place. -/
def JErr (n pos : Int) (v : Value) (w : World) : Prop :=
  (n = 0 ∧ pos = -1 ∧ v = .nilIface) ∨ (n ≠ 0 ∧ pos = -1 ∧ v = .iface 81 (.int .i64 n)) ∨ (n ≠ 0 ∧ ∃ b, v = .iface 88 (.pointer (some ⟨b, 0, none⟩)) ∧ w.cell? ⟨b, 0, none⟩ = some (.int .i64 pos) ∧ w.cell? ⟨b, 1, none⟩ = some (.iface 81 (.int .i64 n)))
theorem JErr.below {n pos : Int} {v : Value} {w w' : World} (h : JErr n pos v w) (hb : Below w.heap.size w w') : JErr n pos v w' := by
  rcases h with h | h | ⟨h, b, e, h0, h1⟩
  · exact .inl h
  · exact .inr (.inl h)
  · exact .inr (.inr ⟨h, b, e, (hb.cell (p := ⟨b, 0, none⟩) (lt_of_cell h0)).trans h0, (hb.cell (p := ⟨b, 1, none⟩) (lt_of_cell h1)).trans h1⟩)
theorem numJ {n pos : Int} {v : Value} {W : World} (h : JErr n pos v W) (hg : ErrTab W) : Calls Tryz.prog 18 #[v] W fun e w' => e = .returned (.int .i64 n) ∧ Below W.heap.size W w' := by
  rcases h with ⟨rfl, rfl, rfl⟩ | ⟨_, rfl, rfl⟩ | ⟨_, b, rfl, h0, h1⟩
  · refine (num_nil W).mono ?_
    rintro e w' ⟨rfl, rfl⟩
    exact ⟨rfl, Below.refl _ _⟩
  · exact num_errno n W hg
  · exact num_at n b 0 W hg h1
theorem posJ {n pos : Int} {v : Value} {W : World} (h : JErr n pos v W) (hg : ErrTab W) : Calls Tryz.prog 19 #[v] W fun e w' => e = .returned (.int .i64 pos) ∧ Below W.heap.size W w' := by
  rcases h with ⟨rfl, rfl, rfl⟩ | ⟨_, rfl, rfl⟩ | ⟨_, b, rfl, h0, h1⟩
  · exact pos_nil W
  · exact pos_errno n W hg
  · exact pos_at pos b 0 W hg h0
theorem parsedL_ends (l : List Int) : ((parsedL l).2.1 = 0 → (parsedL l).2.2 = -1) ∧ ((parsedL l).2.1 ≠ 0 → (parsedL l).1 = zeroJ) := by
  unfold parsedL readL
  split
  · exact ⟨fun h => (by cases h), fun _ => rfl⟩
  · split
    · rename_i he; exact ⟨fun h => absurd h he, fun _ => rfl⟩
    · split
      · exact ⟨fun h => (by cases h), fun _ => rfl⟩
      · exact ⟨fun _ => rfl, fun h => absurd rfl h⟩
/-- What Parse tells, whatever comes. -/
def PAll (W : World) (r : J × Int × Int) (e : Ending) (w' : World) : Prop :=
  ∃ v ev, e = .returned (.tuple #[v, ev]) ∧ RepS w' (fun b => W.heap.size ≤ b) r.1 v ∧ JErr r.2.1 r.2.2 ev w' ∧ Below W.heap.size W w'
theorem parse_tells (A : Option Addr) (xs : List Int) (n c : Nat) (W : World) (hn : xs.length = n) (hn2 : n ≤ 9223372036854775807) (hx : Bytes xs) (hl : Lies W A xs) (hm : Marks W) (ht : ErrTab W) :
    Calls Tryz.prog 16 #[.slice A n c] W (PAll W (parsedL xs)) := by
  obtain ⟨e1, e2⟩ := parsedL_ends xs
  refine (parse_any A xs n c W hn hn2 hx hl hm ht).mono ?_
  rintro e w' hp
  rcases hp with (⟨h0, v, rfl, hr, hb⟩ | ⟨h0, b, rfl, c0, c1, _, hb⟩) | ⟨h0, h1, rfl, hb⟩
  · exact ⟨v, _, rfl, hr, .inl ⟨h0, e1 h0, rfl⟩, hb⟩
  · exact ⟨_, _, rfl, by rw [e2 h0]; exact RepS.zero _ _, .inr (.inr ⟨h0, b, rfl, c0, c1⟩), hb⟩
  · exact ⟨_, _, rfl, by rw [e2 h0]; exact RepS.zero _ _, .inr (.inl ⟨h0, h1, rfl⟩), hb⟩
mutual
def mildB : J → Bool
  | .mk _ _ s l k => decide (s.size ≤ 1000000000) && k.all (fun t => decide (t.size ≤ 1000000000)) && mildBs l
def mildBs : List J → Bool
  | [] => true
  | x :: r => mildB x && mildBs r
end
theorem mild_of (j : J) : mildB j = true → Mild j := by
  induction j using J.ind with
  | h kind n s l k ih =>
    intro h
    rw [mildB] at h
    simp only [Bool.and_eq_true, decide_eq_true_eq, List.all_eq_true] at h
    have key : ∀ (l : List J), (∀ x ∈ l, mildB x = true → Mild x) → mildBs l = true → ∀ x ∈ l, Mild x := fun l => by
      induction l with
      | nil => intro _ _ x hx; cases hx
      | cons y r ihr =>
        intro ih h x hx
        rw [mildBs, Bool.and_eq_true] at h
        rcases List.mem_cons.1 hx with rfl | hx
        · exact ih _ (by simp) h.1
        · exact ihr (fun z hz => ih z (List.mem_cons_of_mem _ hz)) h.2 x hx
    exact .mk kind n s l k h.1.1 h.1.2 (key l ih h.2)
/-- What the laws ask of the world. -/
structure Ask5 (w : World) : Prop where
  tab : ErrTab w
  marks : Marks w
theorem Ask5.below {w w' : World} (h : Ask5 w) (hb : Below w.heap.size w w') : Ask5 w' := ⟨h.tab.below hb, h.marks.below hb⟩
def tx1 : List Int := [123, 34, 98, 34, 58, 49, 44, 34, 97, 34, 58, 91, 116, 114, 117, 101, 44, 34, 92, 117, 50, 48, 97, 99, 34, 93, 125]
def tx2 : List Int := [123, 34, 97, 34, 58, 49, 44, 34, 97, 34, 58, 50, 125]
def tx3 : List Int := [91, 49, 46, 53, 93]
end Go.Proofs.YtlcljphbldjieaaGreatDoor
namespace Go.Proofs.YtlcljphbldjieaaGreatDoor
open Go Go.RowKit
def jx1 : J := .mk 5 0 ⟨#[]⟩ [.mk 4 0 ⟨#[]⟩ [.mk 1 1 ⟨#[]⟩ [] [], .mk 3 0 ⟨#[226, 130, 172]⟩ [] []] [], .mk 2 1 ⟨#[]⟩ [] []] [⟨#[97]⟩, ⟨#[98]⟩]
theorem jp1 : parsedL tx1 = (jx1, 0, -1) := by kernel_rfl
theorem jp2 : parsedL tx2 = (zeroJ, 52, 7) := by kernel_rfl
theorem jp3 : parsedL tx3 = (zeroJ, 50, 2) := by kernel_rfl
def tx4 : List Int := [123, 34, 97, 34, 58, 91, 116, 114, 117, 101, 44, 34, 226, 130, 172, 34, 93, 44, 34, 98, 34, 58, 49, 125]
theorem pr1 : printJ jx1 = (tx4, 0) := by kernel_rfl
theorem str4 : toS tx4 = ⟨#[123, 34, 97, 34, 58, 91, 116, 114, 117, 101, 44, 34, 226, 130, 172, 34, 93, 44, 34, 98, 34, 58, 49, 125]⟩ := by decide +kernel
theorem byt1 : Bytes tx1 := .of_mem (by decide)
theorem byt2j : Bytes tx2 := .of_mem (by decide)
theorem byt3j : Bytes tx3 := .of_mem (by decide)
theorem alive_p1 (W : World) (ha : Ask5 W) : Calls Tryz.prog 16 #[.slice (some ⟨W.heap.size, 0, none⟩) 27 27] (W.alloc (.cells (ints .u8 [123, 34, 98, 34, 58, 49, 44, 34, 97, 34, 58, 91, 116, 114, 117, 101, 44, 34, 92, 117, 50, 48, 97, 99, 34, 93, 125]).toArray 5 (27, 28))) fun e w' => ∃ A c K d, e = .returned (.tuple #[.agg #[.int .i64 5, .int .i64 0, .string ⟨#[]⟩, .slice A 2 c, .slice K 2 d], .nilIface]) ∧ RepJ w' jx1 (.agg #[.int .i64 5, .int .i64 0, .string ⟨#[]⟩, .slice A 2 c, .slice K 2 d]) ∧ Below W.heap.size W w' := by
  refine (parse_tells (some ⟨W.heap.size, 0, none⟩) tx1 27 27 _ rfl (by omega) byt1 (Lies.lit W _ _ _) (ha.marks.below (belowAlloc _ _)) (ha.tab.below (belowAlloc _ _))).mono ?_
  rintro e w' ⟨v, ev, rfl, hr, he, hb⟩
  rw [jp1] at hr he
  have hv : ev = .nilIface := by
    rcases he with ⟨_, _, h⟩ | ⟨h, _⟩ | ⟨h, _⟩
    · exact h
    · exact absurd rfl h
    · exact absurd rfl h
  subst hv
  obtain ⟨vk, A, c, rfl, _, ⟨K, d, rfl, _, _⟩, _, _⟩ := hr.open
  exact ⟨A, c, K, d, rfl, RepS.toJ _ _ hr, (belowAlloc W _).trans (hb.mono (belowAlloc W _).size)⟩
theorem alive_p2 (W : World) (ha : Ask5 W) : Calls Tryz.prog 16 #[.slice (some ⟨W.heap.size, 0, none⟩) 13 13] (W.alloc (.cells (ints .u8 [123, 34, 97, 34, 58, 49, 44, 34, 97, 34, 58, 50, 125]).toArray 5 (13, 14))) fun e w' => ∃ A c K d ev, e = .returned (.tuple #[.agg #[.int .i64 0, .int .i64 0, .string ⟨#[]⟩, .slice A 0 c, .slice K 0 d], ev]) ∧ JErr 52 7 ev w' ∧ Below W.heap.size W w' := by
  refine (parse_tells (some ⟨W.heap.size, 0, none⟩) tx2 13 13 _ rfl (by omega) byt2j (Lies.lit W _ _ _) (ha.marks.below (belowAlloc _ _)) (ha.tab.below (belowAlloc _ _))).mono ?_
  rintro e w' ⟨v, ev, rfl, hr, he, hb⟩
  rw [jp2] at hr he
  obtain ⟨vk, A, c, rfl, _, ⟨K, d, rfl, _, _⟩, _, _⟩ := hr.open
  exact ⟨A, c, K, d, ev, rfl, he, (belowAlloc W _).trans (hb.mono (belowAlloc W _).size)⟩
theorem alive_p3 (W : World) (ha : Ask5 W) : Calls Tryz.prog 16 #[.slice (some ⟨W.heap.size, 0, none⟩) 5 5] (W.alloc (.cells (ints .u8 [91, 49, 46, 53, 93]).toArray 5 (5, 6))) fun e w' => ∃ A c K d ev, e = .returned (.tuple #[.agg #[.int .i64 0, .int .i64 0, .string ⟨#[]⟩, .slice A 0 c, .slice K 0 d], ev]) ∧ JErr 50 2 ev w' ∧ Below W.heap.size W w' := by
  refine (parse_tells (some ⟨W.heap.size, 0, none⟩) tx3 5 5 _ rfl (by omega) byt3j (Lies.lit W _ _ _) (ha.marks.below (belowAlloc _ _)) (ha.tab.below (belowAlloc _ _))).mono ?_
  rintro e w' ⟨v, ev, rfl, hr, he, hb⟩
  rw [jp3] at hr he
  obtain ⟨vk, A, c, rfl, _, ⟨K, d, rfl, _, _⟩, _, _⟩ := hr.open
  exact ⟨A, c, K, d, ev, rfl, he, (belowAlloc W _).trans (hb.mono (belowAlloc W _).size)⟩
theorem alive_pr (W : World) (v : Value) (ha : Ask5 W) (hj : RepJ W jx1 v) : Calls Tryz.prog 22 #[v] W fun e w' => e = .returned (.tuple #[.string ⟨#[123, 34, 97, 34, 58, 91, 116, 114, 117, 101, 44, 34, 226, 130, 172, 34, 93, 44, 34, 98, 34, 58, 49, 125]⟩, .nilIface]) ∧ Below W.heap.size W w' := by
  refine (printJ_any jx1 v W hj (mild_of _ (by decide +kernel)) ha.marks).mono ?_
  rintro e w' ⟨rfl, _, hb⟩
  rw [pr1, str4]
  exact ⟨rfl, hb⟩
set_option maxRecDepth 100000 in
set_option maxHeartbeats 4000000 in
theorem alive5_any (w : World) (ha : Ask5 w) : Calls Tryz.prog 15 #[] w fun e w' => e = .returned (.bool true) ∧ Below w.heap.size w w' := by
  have kc := fun (w : World) (C : Array Value) (n c : Nat) => Lib.run_convert_bytes_const (P := Tryz.prog) w 31 5 C n c Tryz.underlying31 Tryz.underlying5
  have HA := Lib.hid ha
  clear ha
  go_enter Tryz.func15, Tryz.ntmps15
  go_wp2_with fail
  refine (alive_p1 _ HA.out).mono ?_
  rintro e w1 ⟨A, c, K, d, rfl, hr, hb⟩
  have HR := Lib.hid hr
  have HB1 := Lib.hid hb
  clear hr hb
  go_wp2_with (first | (refine wpList_alloc_blk rfl (some 1) rfl _ rfl _ zeroJs ?_; intro g1 wa1 hg1 hb1 hgr1; have HA1 := Lib.hid hgr1; have HG1 := Lib.hid hg1; clear hgr1 hg1; try go_frame) | (refine wpList_store_blk rfl none rfl _ (.tmp 1) _ rfl g1 0 [.int .i64 5, .int .i64 0, .string ⟨#[]⟩, .slice A 2 c, .slice K 2 d] rfl rfl _ _ hb1 (by simp [zeros5]) sizeJson (by intro v hv; simp at hv; rcases hv with rfl | rfl | rfl | rfl | rfl <;> rfl) ?_; intro ws1 hc1 hgs1; rw [splice_all _ _ (by simp [zeros5])] at hc1; have HS1 := Lib.hid (mid_below HB1.out HA1.out HG1.out hgs1); have HM1 := Lib.hid (mid_below (Below.refl _ _) HA1.out HG1.out hgs1); obtain ⟨x10, x11, x12, x13, x14⟩ : ws1.cell? ⟨g1, 0, none⟩ = some (.int .i64 5) ∧ ws1.cell? ⟨g1, 1, none⟩ = some (.int .i64 0) ∧ ws1.cell? ⟨g1, 2, none⟩ = some (.string ⟨#[]⟩) ∧ ws1.cell? ⟨g1, 3, none⟩ = some (.slice A 2 c) ∧ ws1.cell? ⟨g1, 4, none⟩ = some (.slice K 2 d) := ⟨hc1.cell 0, hc1.cell 1, hc1.cell 2, hc1.cell 3, hc1.cell 4⟩; have HK1 := Lib.hid hc1; clear hgs1 hc1; try go_frame))
  refine (alive_pr _ _ (HA.out.below HS1.out) (RepJ.below HM1.out _ _ HR.out)).mono ?_
  rintro e w2 ⟨rfl, hb⟩
  have HB2 := Lib.hid (HS1.out.trans (hb.mono HS1.out.size))
  clear hb
  go_wp2_with fail
  refine (alive_p2 _ (HA.out.below HB2.out)).mono ?_
  rintro e w3 ⟨A2, c2, K2, d2, ev2, rfl, he2, hb⟩
  have HB3 := Lib.hid (HB2.out.trans (hb.mono HB2.out.size))
  have HE2 := Lib.hid he2
  clear hb he2
  go_wp2_with (first | (refine wpList_alloc_blk rfl (some 5) rfl _ rfl _ zeroJs ?_; intro g5 wa5 hg5 hb5 hgr5; have HA5 := Lib.hid hgr5; have HG5 := Lib.hid hg5; clear hgr5 hg5; try go_frame) | (refine wpList_store_blk rfl none rfl _ (.tmp 5) _ rfl g5 0 [.int .i64 0, .int .i64 0, .string ⟨#[]⟩, .slice A2 0 c2, .slice K2 0 d2] rfl rfl _ _ hb5 (by simp [zeros5]) sizeJson (by intro v hv; simp at hv; rcases hv with rfl | rfl | rfl | rfl | rfl <;> rfl) ?_; intro ws5 hc5 hgs5; rw [splice_all _ _ (by simp [zeros5])] at hc5; have HS5 := Lib.hid (mid_below HB3.out HA5.out HG5.out hgs5); have HM5 := Lib.hid (mid_below (Below.refl _ _) HA5.out HG5.out hgs5); have HK5 := Lib.hid hc5; clear hgs5 hc5; try go_frame))
  refine (alive_p3 _ (HA.out.below HS5.out)).mono ?_
  rintro e w4 ⟨A3, c3, K3, d3, ev3, rfl, he3, hb⟩
  have HB4 := Lib.hid (HS5.out.trans (hb.mono HS5.out.size))
  have HE3 := Lib.hid he3
  have HE22 := Lib.hid (HE2.out.below (HM5.out.trans (hb.mono HM5.out.size)))
  clear hb he3
  go_wp2_with (first | (refine wpList_alloc_blk rfl (some 7) rfl _ rfl _ zeroJs ?_; intro g7 wa7 hg7 hb7 hgr7; have HA7 := Lib.hid hgr7; have HG7 := Lib.hid hg7; clear hgr7 hg7; try go_frame) | (refine wpList_store_blk rfl none rfl _ (.tmp 7) _ rfl g7 0 [.int .i64 0, .int .i64 0, .string ⟨#[]⟩, .slice A3 0 c3, .slice K3 0 d3] rfl rfl _ _ hb7 (by simp [zeros5]) sizeJson (by intro v hv; simp at hv; rcases hv with rfl | rfl | rfl | rfl | rfl <;> rfl) ?_; intro ws7 hc7 hgs7; rw [splice_all _ _ (by simp [zeros5])] at hc7; have HS7 := Lib.hid (mid_below HB4.out HA7.out HG7.out hgs7); have HM7 := Lib.hid (mid_below (Below.refl _ _) HA7.out HG7.out hgs7); have HK7 := Lib.hid hc7; clear hgs7 hc7; try go_frame))
  refine (numJ (HE22.out.below HM7.out) (HA.out.tab.below HS7.out)).mono ?_
  rintro e w5 ⟨rfl, hb5⟩
  have HB5 := Lib.hid (HS7.out.trans (hb5.mono HS7.out.size))
  have HM5' := Lib.hid (HM7.out.trans (hb5.mono HM7.out.size))
  clear hb5
  go_wp2_with fail
  refine (posJ (HE22.out.below HM5'.out) (HA.out.tab.below HB5.out)).mono ?_
  rintro e w6 ⟨rfl, hb6⟩
  have HB6 := Lib.hid (HB5.out.trans (hb6.mono HB5.out.size))
  have HM6 := Lib.hid (HM5'.out.trans (hb6.mono HM5'.out.size))
  clear hb6
  go_wp2_with fail
  refine (numJ (HE3.out.below HM6.out) (HA.out.tab.below HB6.out)).mono ?_
  rintro e w7 ⟨rfl, hb7⟩
  have HB7 := Lib.hid (HB6.out.trans (hb7.mono HB6.out.size))
  have HM7' := Lib.hid (HM6.out.trans (hb7.mono HM6.out.size))
  clear hb7
  go_wp2_with fail
  refine (posJ (HE3.out.below HM7'.out) (HA.out.tab.below HB7.out)).mono ?_
  rintro e w8 ⟨rfl, hb8⟩
  have HB8 := Lib.hid (HB7.out.trans (hb8.mono HB7.out.size))
  clear hb8
  go_wp2_with fail
  go_ret
  exact ⟨rfl, HB8.out⟩
end Go.Proofs.YtlcljphbldjieaaGreatDoor
namespace Go.Proofs.YtlcljphbldjieaaGreatDoor
open Go Go.RowKit
mutual
theorem sameJ_refl : ∀ j : J, sameJ j j = true
  | .mk k n s l m => by rw [sameJ, sameLs_refl l]; simp
theorem sameLs_refl : ∀ l : List J, sameLs l l = true
  | [] => by rw [sameLs]
  | x :: r => by rw [sameLs, sameJ_refl x, sameLs_refl r]; rfl
end
theorem RepJ.form {W : World} {j : J} {v : Value} (h : RepJ W j v) : ∃ x0 x1 x2 A p c K q d, v = .agg #[.int .i64 x0, .int .i64 x1, .string x2, .slice A p c, .slice K q d] := by
  obtain ⟨vk, A, c, rfl, _, hk, _, _⟩ := h.open
  obtain ⟨K, d, rfl, _, _⟩ := hk.open
  exact ⟨_, _, _, _, _, _, _, _, _, rfl⟩
/-- What Parse tells of a string's bytes. -/
theorem parse_str (s : ByteArray) (c : Nat) (W : World) (ha : Ask5 W) (hs : s.size ≤ 5000) : Calls Tryz.prog 16 #[.slice (some ⟨W.heap.size, 0, none⟩) s.size c] (Lib.bytesWorld W 5 s) fun e w' =>
    ∃ x0 x1 x2 xA xp xc xK xq xd ev, e = .returned (.tuple #[.agg #[.int .i64 x0, .int .i64 x1, .string x2, .slice xA xp xc, .slice xK xq xd], ev]) ∧ RepJ w' (parsedL (strL s)).1 (.agg #[.int .i64 x0, .int .i64 x1, .string x2, .slice xA xp xc, .slice xK xq xd]) ∧ JErr (parsedL (strL s)).2.1 (parsedL (strL s)).2.2 ev w' ∧ Below W.heap.size W w' := by
  refine (parse_tells (some ⟨W.heap.size, 0, none⟩) (strL s) s.size c _ (length_strL s) (by omega) (strL_bd s) (liesBytes W 5 s) (ha.marks.below (belowBytes W _ s)) (ha.tab.below (belowBytes W _ s))).mono ?_
  rintro e w' ⟨v, ev, rfl, hr, he, hb⟩
  have hj := RepS.toJ _ _ hr
  obtain ⟨x0, x1, x2, A, p, c, K, q, d, rfl⟩ := hj.form
  exact ⟨_, _, _, _, _, _, _, _, _, ev, rfl, hj, he, (belowBytes W 5 s).trans (hb.mono (belowBytes W 5 s).size)⟩
end Go.Proofs.YtlcljphbldjieaaGreatDoor
namespace Go.Proofs.YtlcljphbldjieaaGreatDoor
open Go Go.RowKit
theorem JErr.nil {n pos : Int} {v : Value} {w : World} (h : JErr n pos v w) (hn : n = 0) : v = .nilIface := by
  rcases h with ⟨_, _, h⟩ | ⟨h, _⟩ | ⟨h, _⟩
  · exact h
  · exact absurd hn h
  · exact absurd hn h
theorem JErr.iface {n pos : Int} {v : Value} {w : World} (h : JErr n pos v w) (hn : n ≠ 0) : ∃ d x, v = .iface d x := by
  rcases h with ⟨h, _⟩ | ⟨_, _, h⟩ | ⟨_, b, h, _⟩
  · exact absurd h hn
  · exact ⟨_, _, h⟩
  · exact ⟨_, _, h⟩
theorem print_good (j : J) (v : Value) (w : World) (hj : RepJ w j v) (hM : Mild j) (hm : Marks w) (hr : (rgt j 1 256).1 = true) (hl : (textL j).length ≤ 4096) :
    Calls Tryz.prog 22 #[v] w fun e w' => e = .returned (.tuple #[.string (toS (textL j)), .nilIface]) ∧ Below w.heap.size w w' := by
  refine (printJ_any j v w hj hM hm).mono ?_
  rintro e w' ⟨rfl, _, hb⟩
  have e1 : printJ j = (textL j, 0) := by unfold printJ; rw [if_neg (by rw [hr]; simp), if_neg (show ¬ 4096 < (textL j).length by omega)]
  rw [e1]
  exact ⟨rfl, hb⟩
theorem print_long (j : J) (v : Value) (w : World) (hj : RepJ w j v) (hM : Mild j) (hm : Marks w) (hr : (rgt j 1 256).1 = true) (hl : 4096 < (textL j).length) :
    Calls Tryz.prog 22 #[v] w fun e w' => e = .returned (.tuple #[.string ⟨#[]⟩, .iface 81 (.int .i64 2)]) ∧ Below w.heap.size w w' := by
  refine (printJ_any j v w hj hM hm).mono ?_
  rintro e w' ⟨rfl, _, hb⟩
  have e1 : printJ j = ([], 2) := by unfold printJ; rw [if_neg (by rw [hr]; simp), if_pos hl]
  rw [e1]
  exact ⟨rfl, hb⟩
theorem print_wrong (j : J) (v : Value) (w : World) (hj : RepJ w j v) (hM : Mild j) (hm : Marks w) (hr : ¬ ((rgt j 1 256).1 = true ∧ (textL j).length ≤ 4096)) :
    Calls Tryz.prog 22 #[v] w fun e w' => ∃ k, e = .returned (.tuple #[.string ⟨#[]⟩, .iface 81 (.int .i64 k)]) ∧ Below w.heap.size w w' := by
  cases h : (rgt j 1 256).1 with
  | true => exact (print_long j v w hj hM hm h (Nat.lt_of_not_le fun hle => hr ⟨h, hle⟩)).mono fun e w' h => ⟨2, h.1, h.2⟩
  | false =>
    refine (printJ_any j v w hj hM hm).mono ?_
    rintro e w' ⟨rfl, _, hb⟩
    have e1 : printJ j = ([], 1) := by unfold printJ; rw [if_pos h]
    rw [e1]
    exact ⟨1, rfl, hb⟩
theorem qOne_by {c : Int} (h : 0 ≤ c ∧ c ≤ 255) : Bytes (qOne c) := .of_mem fun x hx => by
  unfold qOne hexS at hx
  split at hx
  · simp only [List.mem_cons, List.not_mem_nil, or_false] at hx
    rcases hx with rfl | rfl | rfl | rfl | rfl | rfl
    · decide
    · decide
    · decide
    · decide
    · split <;> omega
    · split <;> omega
  · split at hx
    · simp only [List.mem_cons, List.not_mem_nil, or_false] at hx
      rcases hx with rfl | rfl <;> omega
    · rw [List.mem_singleton] at hx; omega
theorem qB_by : ∀ xs : List Int, Bytes xs → Bytes (qB xs)
  | [], _ => .of_mem (by simp [qB])
  | c :: r, h => by
    rw [qB_cons]
    exact (qOne_by (h.mem (by simp))).append (qB_by r (.of_mem fun x hx => h.mem (List.mem_cons_of_mem _ hx)))
theorem quoteL_by (t : ByteArray) : Bytes (quoteL (strL t)) := by
  rw [quoteL_is]
  have h := qB_by _ (strL_bd t)
  exact .of_mem fun x hx => by
    rcases List.mem_cons.1 hx with rfl | hx
    · decide
    · rcases List.mem_append.1 hx with hx | hx
      · exact h.mem hx
      · rw [List.mem_singleton] at hx; omega
theorem items_by (o : Bool) : ∀ (ls : List J) (f : Bool) (k : List ByteArray), (∀ x ∈ ls, Bytes (textL x)) → Bytes (itemsL o f ls k)
  | [], _, _, _ => by rw [itemsL]; exact .of_mem (by simp)
  | x :: r, f, k, h => by
    rw [itemsL]
    have h1 : Bytes (if f = true then [] else [44]) := by split <;> exact .of_mem (by simp)
    have h2 : Bytes (if o = true then quoteL (strL (k.headD ⟨#[]⟩)) ++ [58] else []) := by
      split
      · exact (quoteL_by _).append (.of_mem (by simp))
      · exact .of_mem (by simp)
    exact h1.append (h2.append ((h x (by simp)).append (items_by o r false k.tail (fun y hy => h y (List.mem_cons_of_mem _ hy)))))
theorem textL_by (j : J) : Bytes (textL j) := by
  induction j using J.ind with
  | h kind n s l k ih =>
    rw [textL]
    split
    · exact .of_mem (by decide)
    split
    · split <;> exact .of_mem (by decide)
    split
    · exact prL_bytes n
    split
    · exact quoteL_by s
    split
    · exact ((Bytes.of_mem (by decide)).append (items_by false l true k ih)).append (.of_mem (by decide))
    split
    · exact ((Bytes.of_mem (by decide)).append (items_by true l true k ih)).append (.of_mem (by decide))
    · exact .of_mem (by simp)
end Go.Proofs.YtlcljphbldjieaaGreatDoor
namespace Go.Proofs.YtlcljphbldjieaaGreatDoor
open Go Go.RowKit
/-- What Print tells of whatever value. -/
def PrT (W : World) (j : J) (e : Ending) (w' : World) : Prop := ∃ T ev, e = .returned (.tuple #[.string T, ev]) ∧ ((ev = .nilIface ∧ (rgt j 1 256).1 = true ∧ (textL j).length ≤ 4096 ∧ strL T = textL j) ∨ ∃ k, ev = .iface 81 (.int .i64 k)) ∧ Below W.heap.size W w'
theorem print_tells (j : J) (v : Value) (w : World) (hj : RepJ w j v) (hM : Mild j) (hm : Marks w) : Calls Tryz.prog 22 #[v] w (PrT w j) := by
  by_cases h : (rgt j 1 256).1 = true ∧ (textL j).length ≤ 4096
  · refine (print_good j v w hj hM hm h.1 h.2).mono ?_
    rintro e w' ⟨rfl, hb⟩
    exact ⟨_, _, rfl, .inl ⟨rfl, h.1, h.2, strL_toS (textL_by j)⟩, hb⟩
  · refine (print_wrong j v w hj hM hm h).mono ?_
    rintro e w' ⟨k, rfl, hb⟩
    exact ⟨_, _, rfl, .inr ⟨k, rfl⟩, hb⟩
theorem textJ_rep (t : ByteArray) (W : World) (ht : t.size ≤ 9223372036854775807) : RepJ W (textJ t) (.agg #[.int .i64 3, .int .i64 0, .string t, .slice none 0 0, .slice none 0 0]) := by
  rw [textJ, RepJ]
  exact ⟨_, none, 0, rfl, ht, ⟨none, 0, rfl, by simp, fun h => absurd rfl h⟩, by simp, fun h => absurd rfl h⟩
theorem textJ_mild (t : ByteArray) (ht : t.size ≤ 1000000000) : Mild (textJ t) := .mk 3 0 t [] [] ht (by simp) (by simp)
theorem textJ_text (t : ByteArray) : textL (textJ t) = quoteL (strL t) := by rw [textJ, textL]; rfl
theorem textJ_utf (t : ByteArray) (h : (rgt (textJ t) 1 256).1 = true) : utfS t = true := by
  obtain ⟨h1, _⟩ := (right_iff _).1 h
  cases h1 with
  | mk _ _ _ _ _ a1 a2 a3 a4 =>
    rcases a3 with a | a | a
    · cases a
    · cases a
    · unfold leafR at a
      rw [if_neg (by decide), if_neg (by decide), if_neg (by decide), if_pos rfl] at a
      exact a
theorem parse_strM (s : ByteArray) (n c : Nat) (W : World) (hn : s.size = n) (ha : Ask5 W) (hs : s.size ≤ 5000) : Calls Tryz.prog 16 #[.slice (some ⟨W.heap.size, 0, none⟩) n c] (Lib.bytesWorld W 5 s) fun e w' =>
    ∃ x0 x1 x2 xA xp xc xK xq xd ev, e = .returned (.tuple #[.agg #[.int .i64 x0, .int .i64 x1, .string x2, .slice xA xp xc, .slice xK xq xd], ev]) ∧ RepJ w' (parsedL (strL s)).1 (.agg #[.int .i64 x0, .int .i64 x1, .string x2, .slice xA xp xc, .slice xK xq xd]) ∧ JErr (parsedL (strL s)).2.1 (parsedL (strL s)).2.2 ev w' ∧ Below W.heap.size W w' := by
  subst hn; exact parse_str s c W ha hs
/-- Two rows of members that a call makes, side by side. -/
structure OrdM (w wr : World) (ml mm : List (ByteArray × J)) (vl vm : Value) (zl zm : List MC) : Prop where
  bel : Below w.heap.size w wr
  ol : wr.ownsRow w.heap.size 47 6 vl ml.length (flatM zl)
  om : wr.ownsRow w.heap.size 47 6 vm mm.length (flatM zm)
  fl : FlatM wr (fun b => b < w.heap.size) ml zl
  fm : FlatM wr (fun b => b < w.heap.size) mm zm
  ne : ∀ g, vl.ownBlock = some g → vm.ownBlock ≠ some g
theorem OrdM.start (w wr : World) (hb : Below w.heap.size w wr) : OrdM w wr [] [] (.slice none 0 0) (.slice none 0 0) [] [] :=
  ⟨hb, World.ownsRow_nil _ _ _ _, World.ownsRow_nil _ _ _ _, rfl, rfl, fun g h => by simp [Value.ownBlock] at h⟩
section
variable {w wr w4 w5 : World} {ml mm : List (ByteArray × J)} {vl vm : Value} {zl zm : List MC}
theorem OrdM.swap (h : OrdM w wr ml mm vl vm zl zm) : OrdM w wr mm ml vm vl zm zl := ⟨h.bel, h.om, h.ol, h.fm, h.fl, fun g h1 h2 => h.ne g h2 h1⟩
theorem OrdM.moved (h : OrdM w wr ml mm vl vm zl zm) (hm : wr.grownBy w4 none) : OrdM w w4 ml mm vl vm zl zm :=
  ⟨h.bel.grown hm h.bel.size (fun k hk => by cases hk), h.ol.kept hm (Classical.em _), h.om.kept hm (Classical.em _), h.fl.keeps (Keeps.grown hm (fun b _ e => by cases e)) (fun b h _ => h), h.fm.keeps (Keeps.grown hm (fun b _ e => by cases e)) (fun b h _ => h), h.ne⟩
theorem OrdM.addl {t : ByteArray} {x : J} {c0 c1 c2 c3 c4 : Value} {g cap n : Nat} (h : OrdM w wr ml mm vl vm zl zm) (h4 : wr.grownBy w4 none) (ht : t.size ≤ 9223372036854775807) (hx : RepS wr (fun b => b < w.heap.size) x (.agg #[c0, c1, c2, c3, c4])) (hgr : w4.grownBy w5 vl.ownBlock)
    (hn : n = ml.length + 1) (hown : w5.ownsRow w.heap.size 47 6 (.slice (some ⟨g, 0, none⟩) n cap) n (flatM zl ++ [.string t, c0, c1, c2, c3, c4])) (hat : vl.ownBlock = some g ∨ w4.heap.size ≤ g) :
    OrdM w w5 (ml ++ [(t, x)]) mm (.slice (some ⟨g, 0, none⟩) n cap) vm (zl ++ [⟨t, c0, c1, c2, c3, c4⟩]) zm := by
  subst hn
  have hI := h.moved h4
  have lL := fun b hb => hI.ol.lt b hb
  have lM := fun b hb => hI.om.lt b hb
  have hkeep : Keeps (fun b => b < w.heap.size) w4 w5 := Keeps.grown hgr (fun b hb e => by have := (lL b e.symm).1; omega)
  refine ⟨hI.bel.grown hgr hI.bel.size (fun b hb => (lL b hb).1), ?_, ?_, ?_, hI.fm.keeps hkeep (fun _ h _ => h), fun b hb e => ?_⟩
  · rw [List.length_append, List.length_singleton, show flatM (zl ++ [⟨t, c0, c1, c2, c3, c4⟩]) = flatM zl ++ [.string t, c0, c1, c2, c3, c4] by unfold flatM; rw [List.flatMap_append]; rfl]
    exact hown
  · refine hI.om.kept hgr ?_
    cases hv : vm.ownBlock with
    | none => exact .inl rfl
    | some b => exact .inr (fun e => hI.ne b e.symm hv)
  · exact FlatM.snoc ht (RepS.keeps hkeep (fun _ h _ => h) _ _ (RepS.keeps (Keeps.grown h4 (fun b _ e => by cases e)) (fun _ h _ => h) _ _ hx)) (hI.fl.keeps hkeep (fun _ h _ => h))
  · have hb' : g = b := by simpa [Value.ownBlock] using hb
    rcases hat with h' | h'
    · exact hI.ne b (by rw [h', hb']) e
    · have := (lM b e).2; omega
end
/-- Members from a place on, round. -/
def rotL (ms : List (ByteArray × J)) (tr i : Nat) : List (ByteArray × J) := (List.range i).map fun j => ms.getD ((j + tr) % ms.length) (⟨#[]⟩, zeroJ)
theorem rotL_snoc (ms : List (ByteArray × J)) (tr i : Nat) : rotL ms tr (i + 1) = rotL ms tr i ++ [ms.getD ((i + tr) % ms.length) (⟨#[]⟩, zeroJ)] := by
  unfold rotL; rw [List.range_succ, List.map_append]; rfl
theorem rotL_len (ms : List (ByteArray × J)) (tr i : Nat) : (rotL ms tr i).length = i := by unfold rotL; simp
theorem rotL_perm (ms : List (ByteArray × J)) (tr : Nat) : (rotL ms tr ms.length).Perm ms := by
  rcases Nat.eq_zero_or_pos ms.length with h | h
  · obtain rfl := List.eq_nil_of_length_eq_zero h; exact .refl _
  · have hk : tr % ms.length < ms.length := Nat.mod_lt _ h
    obtain ⟨k, hk'⟩ : ∃ k, k = tr % ms.length := ⟨_, rfl⟩
    rw [← hk'] at hk
    have e : rotL ms tr ms.length = ms.drop k ++ ms.take k := by
      apply List.ext_getElem
      · rw [rotL_len]; simp; omega
      · intro i h1 h2
        rw [rotL_len] at h1
        have hmod : (i + tr) % ms.length = (i + k) % ms.length := by rw [hk', Nat.add_mod_mod]
        have hg : (rotL ms tr ms.length)[i]'(by rw [rotL_len]; exact h1) = ms.getD ((i + tr) % ms.length) (⟨#[]⟩, zeroJ) := by simp [rotL]
        rw [hg, hmod, List.getElem_append]
        split
        · rename_i h3
          rw [List.length_drop] at h3
          rw [Nat.mod_eq_of_lt (by omega), List.getElem_drop, List.getD_eq_getElem?_getD, List.getElem?_eq_getElem (by omega)]
          simp [Nat.add_comm]
        · rename_i h3
          rw [List.length_drop] at h3
          rw [Nat.mod_eq_sub_mod (by omega), Nat.mod_eq_of_lt (by omega), List.getElem_take, List.getD_eq_getElem?_getD, List.getElem?_eq_getElem (by omega)]
          simp only [Option.getD_some, List.length_drop]
          congr 1; omega
    rw [e]
    exact List.perm_append_comm.trans (by rw [List.take_append_drop])
/-- What the law counts. -/
def nL : List (ByteArray × J) → Nat
  | [] => 0
  | m :: r => (quoteL (strL m.1)).length + (textL m.2).length + 6 + nL r
theorem nL_app : ∀ a b : List (ByteArray × J), nL (a ++ b) = nL a + nL b
  | [], b => by simp [nL]
  | m :: r, b => by rw [List.cons_append, nL, nL, nL_app r b]; omega
theorem nL_perm {a b : List (ByteArray × J)} (h : a.Perm b) : nL a = nL b := by
  induction h with
  | nil => rfl
  | cons m _ ih => rw [nL, nL, ih]
  | swap m k r => rw [nL, nL, nL, nL]; omega
  | trans _ _ h1 h2 => exact h1.trans h2
theorem jo_nL (s1 s2 : List Int) (h1 : s1.length ≤ 2) (h2 : s2.length ≤ 3) : ∀ (ms : List (ByteArray × J)) (f : Bool), (joL s1 s2 f ms).length ≤ nL ms
  | [], _ => Nat.zero_le _
  | m :: r, f => by
    have := jo_nL s1 s2 h1 h2 r false
    have h3 : (if f = true then [] else s1 : List Int).length ≤ 2 := by cases f <;> simp [h1]
    rw [joL, nL]
    simp only [List.length_append]
    omega
/-- What may stand in a row that was printed. -/
def Prd (m : ByteArray × J) : Prop := utfS m.1 = true ∧ (rgt m.2 1 256).1 = true ∧ (quoteL (strL m.1)).length ≤ 4096 ∧ (textL m.2).length ≤ 4096
theorem nL_le : ∀ ms : List (ByteArray × J), (∀ m ∈ ms, Prd m) → nL ms ≤ ms.length * 8198
  | [], _ => by simp [nL]
  | m :: r, h => by
    have h1 := nL_le r (fun x hx => h x (List.mem_cons_of_mem _ hx))
    obtain ⟨_, _, h3, h4⟩ := h m (by simp)
    rw [nL, List.length_cons]
    omega
/-- What is read of the two texts. -/
theorem order_two (ms mm : List (ByteArray × J)) (hp : mm.Perm ms) (hms : ∀ m ∈ ms, Prd m) (hnd : (ms.map Prod.fst).Nodup) (a b : List Int) (ha : a = joL [44] [58] true ms) (hb : b = joL [32, 44] [32, 58, 32] true mm) (hn : nL ms ≤ 3000) :
    (∃ j, j = J.mk 5 0 ⟨#[]⟩ (putsL ms).2 (putsL ms).1 ∧ parsedL (123 :: (a ++ [125])) = (j, 0, -1) ∧ parsedL (123 :: 32 :: (b ++ [10, 125])) = (j, 0, -1)) ∨
    ((parsedL (123 :: (a ++ [125]))).2.1 ≠ 0 ∧ (parsedL (123 :: (a ++ [125]))).1 = zeroJ ∧ (parsedL (123 :: 32 :: (b ++ [10, 125]))).2.1 ≠ 0 ∧ (parsedL (123 :: 32 :: (b ++ [10, 125]))).1 = zeroJ) := by
  subst ha; subst hb
  have hnd' : (mm.map Prod.fst).Nodup := (hp.map Prod.fst).nodup_iff.2 hnd
  have hr : ∀ m ∈ ms, utfS m.1 = true ∧ Rt m.2 := fun m hm => ⟨(hms m hm).1, ((right_iff _).1 (hms m hm).2.1).1⟩
  have hr' : ∀ m ∈ mm, utfS m.1 = true ∧ Rt m.2 := fun m hm => hr m (hp.mem_iff.1 hm)
  have l1 := jo_nL [44] [58] (by decide) (by decide) ms true
  have l2 := jo_nL [32, 44] [32, 58, 32] (by decide) (by decide) mm true
  rw [nL_perm hp] at l2
  have x1 := order_parsed ms [] [] [] [] [] (by simp) (by simp) (by simp) (by simp) (by simp) hr hnd (123 :: (joL [44] [58] true ms ++ [125])) rfl (by simp; omega)
  have x2 := order_parsed mm [32] [32] [32] [32] [10] (by decide) (by decide) (by decide) (by decide) (by decide) hr' hnd' (123 :: 32 :: (joL [32, 44] [32, 58, 32] true mm ++ [10, 125])) rfl (by simp; omega)
  rw [puts_perm hp hnd, szLs_perm (hp.map Prod.snd), dpLs_perm (hp.map Prod.snd)] at x2
  by_cases h : szLs (ms.map Prod.snd) ≤ 255 ∧ dpLs (ms.map Prod.snd) ≤ 7
  · exact .inl ⟨_, rfl, x1.1 h, x2.1 h⟩
  · exact .inr ⟨(x1.2 h).1, (x1.2 h).2, (x2.2 h).1, (x2.2 h).2⟩
end Go.Proofs.YtlcljphbldjieaaGreatDoor
namespace Go.Proofs.YtlcljphbldjieaaGreatDoor
open Go Go.RowKit
theorem sm_of_rt {j : J} (h : Rt j) (hz : szJ j ≤ 256) : Sm j := by
  induction j using J.ind with
  | h kind n s l k ih =>
    cases h with
    | mk _ _ _ _ _ a1 a2 a3 a4 =>
      have hl : ∀ (l : List J), l.length ≤ szLs l ∧ ∀ x ∈ l, szJ x ≤ szLs l := fun l => by
        induction l with
        | nil => exact ⟨by simp, fun x hx => by cases hx⟩
        | cons y r ihr =>
          have := szJ_pos y
          rw [szLs]
          refine ⟨by simp; omega, fun x hx => ?_⟩
          rcases List.mem_cons.1 hx with rfl | hx
          · omega
          · have := ihr.2 x hx; omega
      rw [szJ] at hz
      have hkl : k.length ≤ l.length := by
        by_cases h5 : kind = 5
        · exact Nat.le_of_eq (a2 h5).1
        · rw [clean_q a1 h5]; exact Nat.zero_le _
      have := (hl l).1
      exact .mk (by omega) (by omega) (fun x hx => ih x hx (a4 x hx) (by have := (hl l).2 x hx; omega))
/-- A member that the arguments hold. -/
def MembAt (w : World) (gn on gv ov j : Nat) (t : ByteArray) (x : J) (x0 x1 : Int) (x2 : ByteArray) (xA : Option Addr) (xp xc : Nat) (xK : Option Addr) (xq xd : Nat) : Prop :=
  t.size ≤ 1000000000 ∧ Mild x ∧ gn < w.heap.size ∧ gv < w.heap.size ∧ RepJ w x (.agg #[.int .i64 x0, .int .i64 x1, .string x2, .slice xA xp xc, .slice xK xq xd]) ∧ w.cell? ⟨gn, on + j, none⟩ = some (.string t) ∧
  w.cell? ⟨gv, ov + j * 5, none⟩ = some (.int .i64 x0) ∧ w.cell? ⟨gv, ov + j * 5 + 1, none⟩ = some (.int .i64 x1) ∧ w.cell? ⟨gv, ov + j * 5 + 2, none⟩ = some (.string x2) ∧ w.cell? ⟨gv, ov + j * 5 + 3, none⟩ = some (.slice xA xp xc) ∧ w.cell? ⟨gv, ov + j * 5 + 4, none⟩ = some (.slice xK xq xd)
theorem memb_all (w : World) (ns : List ByteArray) (vs : List J) (K A : Option Addr) (hl : ns.length ≤ vs.length) (hn0 : 0 < ns.length) (hz : ∀ t ∈ ns, t.size ≤ 1000000000) (hM : ∀ x ∈ vs, Mild x)
    (hn : ns ≠ [] → ∃ b o, K = some ⟨b, o, none⟩ ∧ b < w.heap.size ∧ ∀ i, i < ns.length → ∃ t, ns[i]? = some t ∧ t.size ≤ 9223372036854775807 ∧ w.cell? ⟨b, o + i, none⟩ = some (.string t))
    (hv : vs ≠ [] → ∃ b o, A = some ⟨b, o, none⟩ ∧ b < w.heap.size ∧ RepC w b o vs) :
    ∃ gn on gv ov, K = some ⟨gn, on, none⟩ ∧ A = some ⟨gv, ov, none⟩ ∧ ∀ j, j < ns.length → ∃ t x x0 x1 x2 xA xp xc xK xq xd, (ns.zip vs).getD j (⟨#[]⟩, zeroJ) = (t, x) ∧ MembAt w gn on gv ov j t x x0 x1 x2 xA xp xc xK xq xd := by
  obtain ⟨gn, on, rfl, hgn, hcn⟩ := hn (fun e => by rw [e] at hn0; simp at hn0)
  obtain ⟨gv, ov, rfl, hgv, hcv⟩ := hv (fun e => by rw [e] at hl; simp at hl; rw [hl] at hn0; simp at hn0)
  refine ⟨gn, on, gv, ov, rfl, rfl, fun j hj => ?_⟩
  obtain ⟨t, h1, _, h2⟩ := hcn j hj
  have hjv : j < vs.length := by omega
  obtain ⟨v, hr, a0, a1, a2, a3, a4, rfl, c0, c1, c2, c3, c4⟩ := hcv.at j hjv
  obtain ⟨x0, x1, x2, xA, xp, xc, xK, xq, xd, e⟩ := hr.form
  injection e with e
  have e := congrArg Array.toList e
  simp only [List.cons.injEq, and_true] at e
  obtain ⟨rfl, rfl, rfl, rfl, rfl⟩ := e
  have ht : t ∈ ns := List.mem_of_getElem? h1
  refine ⟨t, vs[j], x0, x1, x2, xA, xp, xc, xK, xq, xd, ?_, hz t ht, hM _ (List.getElem_mem hjv), hgn, hgv, hr, h2, c0, c1, c2, c3, c4⟩
  rw [List.getD_eq_getElem?_getD, (List.getElem?_zip_eq_some (z := (t, vs[j]))).2 ⟨h1, List.getElem?_eq_getElem hjv⟩]
  rfl
theorem wp_build_of {P : Program} {o : Oper} {a : Act} {w : World} {K : Act → World → Prop} {Q : Exit → Act → World → Prop} (t : TypeId) (parts : Array (Nat × Operand)) (ho : o.op = .build t parts) (vals : List (Nat × Value)) (cells : Array Value)
    (hv : (parts.map fun (i, x) => (i, a.eval x)).toList = vals) (hb : P.built t vals = some cells) (h : K (a.put o.dst (.agg cells)) w) : o.wp P a w K Q := by
  subst hv
  exact wp_build t parts ho (by rw [hb]; rfl) (by rw [hb]; exact h)
set_option maxRecDepth 100000 in
theorem built_memb (t y2 : ByteArray) (y0 y1 : Int) (yA yK : Option Addr) (yp yc yq yd : Nat) : Tryz.prog.built 47 [(0, .string t), (1, .agg #[.int .i64 y0, .int .i64 y1, .string y2, .slice yA yp yc, .slice yK yq yd])] = some #[.string t, .int .i64 y0, .int .i64 y1, .string y2, .slice yA yp yc, .slice yK yq yd] := by kernel_rfl
theorem run_memb (w : World) (t y2 : ByteArray) (y0 y1 : Int) (yA yK : Option Addr) (yp yc yq yd : Nat) : (Instr.build 47 #[(0, .string t), (1, .agg #[.int .i64 y0, .int .i64 y1, .string y2, .slice yA yp yc, .slice yK yq yd])]).run Tryz.prog w = .ok (.agg #[.string t, .int .i64 y0, .int .i64 y1, .string y2, .slice yA yp yc, .slice yK yq yd]) w := run_build w 47 _ _ (built_memb t y2 y0 y1 yA yK yp yc yq yd)
set_option maxRecDepth 100000 in
theorem wp_slice_memb {o : Oper} {a : Act} {w : World} {K : Act → World → Prop} {Q : Exit → Act → World → Prop} (parts : Array (Nat × Operand)) (ho : o.op = .buildSlice 45 1 parts) (t y2 : ByteArray) (y0 y1 : Int) (yA yK : Option Addr) (yp yc yq yd : Nat)
    (hv : (parts.map fun (i, x) => (i, a.eval x)).toList = [(0, .agg #[.string t, .int .i64 y0, .int .i64 y1, .string y2, .slice yA yp yc, .slice yK yq yd])])
    (h : K (a.put o.dst (.slice (some ⟨w.heap.size, 0, none⟩) 1 1)) (w.alloc (.cells #[.string t, .int .i64 y0, .int .i64 y1, .string y2, .slice yA yp yc, .slice yK yq yd] 47))) : o.wp Tryz.prog a w K Q := by
  obtain ⟨iM, hM, hM0, hM1, hM2⟩ := info_parts infoMp
  refine wp_buildSlice 45 47 1 parts ho #[.string t, .int .i64 y0, .int .i64 y1, .string y2, .slice yA yp yc, .slice yK yq yd] iM _ Tryz.underlying45 hM hM0 (by rw [hM1]; decide) (by rw [hM1]; decide) ?_ h
  rw [hM1, hv]
  kernel_rfl
/-- The texts that the law writes as it goes. -/
def TxI (ms : List (ByteArray × J)) (tr i : Nat) (sa sb : ByteArray) (k : Int) : Prop :=
  strL sa = joL [44] [58] true (ms.take i) ∧ strL sb = joL [32, 44] [32, 58, 32] true (rotL ms tr i) ∧ k = (nL (ms.take i) : Nat) ∧ ((ms.take i).map Prod.fst).Nodup ∧ (∀ m ∈ ms.take i, Prd m) ∧ ∀ m ∈ rotL ms tr i, Prd m
theorem TxI.small {ms : List (ByteArray × J)} {tr i : Nat} {sa sb : ByteArray} {k : Int} (h : TxI ms tr i sa sb k) (hi : i ≤ 12) : sa.size ≤ 98376 ∧ sb.size ≤ 98376 ∧ 0 ≤ k ∧ k ≤ 98376 := by
  obtain ⟨h1, h2, h3, _, h5, h6⟩ := h
  have l1 := jo_nL [44] [58] (by decide) (by decide) (ms.take i) true
  have l2 := jo_nL [32, 44] [32, 58, 32] (by decide) (by decide) (rotL ms tr i) true
  have l3 := nL_le _ h5
  have l4 := nL_le _ h6
  rw [rotL_len] at l4
  rw [List.length_take] at l3
  rw [← h1, length_strL] at l1
  rw [← h2, length_strL] at l2
  have : min i ms.length * 8198 ≤ 98376 := by omega
  omega
theorem TxI.next {ms : List (ByteArray × J)} {tr i : Nat} {sa sb sa' sb' : ByteArray} {k : Int} {t1 t2 : ByteArray} {x1 x2 : J} (h : TxI ms tr i sa sb k) (hi : i < ms.length) (e1 : ms.getD i (⟨#[]⟩, zeroJ) = (t1, x1)) (e2 : ms.getD ((i + tr) % ms.length) (⟨#[]⟩, zeroJ) = (t2, x2)) (p1 : Prd (t1, x1)) (p2 : Prd (t2, x2))
    (hne : ∀ y, y < i → ∀ t x, ms.getD y (⟨#[]⟩, zeroJ) = (t, x) → t ≠ t1)
    (ha : strL sa' = strL sa ++ ((if i = 0 then [] else [44]) ++ (quoteL (strL t1) ++ ([58] ++ textL x1)))) (hb : strL sb' = strL sb ++ ((if i = 0 then [] else [32, 44]) ++ (quoteL (strL t2) ++ ([32, 58, 32] ++ textL x2)))) :
    ms.take (i + 1) = ms.take i ++ [(t1, x1)] ∧ TxI ms tr (i + 1) sa' sb' (k + (quoteL (strL t1)).length + (textL x1).length + 6) := by
  obtain ⟨h1, h2, h3, h4, h5, h6⟩ := h
  have g1 : ms[i] = (t1, x1) := by rw [List.getD_eq_getElem?_getD, List.getElem?_eq_getElem hi] at e1; exact e1
  have ht : ms.take (i + 1) = ms.take i ++ [(t1, x1)] := by rw [List.take_succ_eq_append_getElem hi, g1]
  have hr : rotL ms tr (i + 1) = rotL ms tr i ++ [(t2, x2)] := by rw [rotL_snoc, e2]
  have z1 : ms.take i = [] ↔ i = 0 := by
    constructor
    · intro h; have := congrArg List.length h; rw [List.length_take, List.length_nil] at this; omega
    · rintro rfl; rfl
  have z2 : rotL ms tr i = [] ↔ i = 0 := by
    constructor
    · intro h; have := congrArg List.length h; rw [rotL_len] at this; simpa using this
    · rintro rfl; rfl
  refine ⟨ht, ?_, ?_, ?_, ?_, ?_, ?_⟩
  · rw [ht, joL_snoc, ← h1, ha]; simp only [z1, true_and]
  · rw [hr, joL_snoc, ← h2, hb]; simp only [z2, true_and]
  · rw [ht, nL_app, nL, nL, h3]; push_cast; omega
  · rw [ht, List.map_append, List.map_singleton, List.nodup_append]
    refine ⟨h4, by simp, fun a ha' b hb' => ?_⟩
    rw [List.mem_singleton] at hb'
    subst hb'
    obtain ⟨m, hm, rfl⟩ := List.mem_map.1 ha'
    obtain ⟨y, hy, rfl⟩ := List.mem_iff_getElem.1 hm
    rw [List.length_take] at hy
    refine hne y (by omega) _ (ms[y]'(by omega)).2 ?_
    rw [List.getD_eq_getElem?_getD, List.getElem?_eq_getElem (by omega)]
    simp
  · rw [ht]; intro m hm
    rcases List.mem_append.1 hm with hm | hm
    · exact h5 m hm
    · rw [List.mem_singleton.1 hm]; exact p1
  · rw [hr]; intro m hm
    rcases List.mem_append.1 hm with hm | hm
    · exact h6 m hm
    · rw [List.mem_singleton.1 hm]; exact p2
end Go.Proofs.YtlcljphbldjieaaGreatDoor
