/- JpLaw, JsonAlive, JsonForm: merged. -/
import Derived.Lib.SlBytesConst
import Derived.Test.YtblheibknpphkaaGreatDoorBa16
import Derived.Test.YtblheibknpphkaaGreatDoorBa44
set_option linter.all false
namespace Go.Proofs.YtblheibknpphkaaGreatDoor
open Go Go.RowKit
/-- What an error tells: none; a number alone; a number and a place. -/
def JErr (n pos : Int) (v : Value) (w : World) : Prop :=
  (n = 0 ∧ pos = -1 ∧ v = .nilIface) ∨ (n ≠ 0 ∧ pos = -1 ∧ v = .iface 58 (.int .i64 n)) ∨ (n ≠ 0 ∧ ∃ b, v = .iface 65 (.pointer (some ⟨b, 0, none⟩)) ∧ w.cell? ⟨b, 0, none⟩ = some (.int .i64 pos) ∧ w.cell? ⟨b, 1, none⟩ = some (.iface 58 (.int .i64 n)))
theorem JErr.below {n pos : Int} {v : Value} {w w' : World} (h : JErr n pos v w) (hb : Below w.heap.size w w') : JErr n pos v w' := by
  rcases h with h | h | ⟨h, b, e, h0, h1⟩
  · exact .inl h
  · exact .inr (.inl h)
  · exact .inr (.inr ⟨h, b, e, (hb.cell (p := ⟨b, 0, none⟩) (lt_of_cell h0)).trans h0, (hb.cell (p := ⟨b, 1, none⟩) (lt_of_cell h1)).trans h1⟩)
theorem numJ {n pos : Int} {v : Value} {W : World} (h : JErr n pos v W) (hg : ErrTab W) : Calls Tryz.prog 13 #[v] W fun e w' => e = .returned (.int .i64 n) ∧ Below W.heap.size W w' := by
  rcases h with ⟨rfl, rfl, rfl⟩ | ⟨_, rfl, rfl⟩ | ⟨_, b, rfl, h0, h1⟩
  · refine (num_nil W).mono ?_
    rintro e w' ⟨rfl, rfl⟩
    exact ⟨rfl, Below.refl _ _⟩
  · exact num_errno n W hg
  · exact num_at n b 0 W hg h1
theorem posJ {n pos : Int} {v : Value} {W : World} (h : JErr n pos v W) (hg : ErrTab W) : Calls Tryz.prog 14 #[v] W fun e w' => e = .returned (.int .i64 pos) ∧ Below W.heap.size W w' := by
  rcases h with ⟨rfl, rfl, rfl⟩ | ⟨_, rfl, rfl⟩ | ⟨_, b, rfl, h0, h1⟩
  · exact pos_nil W
  · exact pos_errno n W hg
  · exact pos_at pos b 0 W hg h0
theorem parsedL_ends (l : List Int) : ((parsedL l).2.1 = 0 → (parsedL l).2.2 = -1) ∧ ((parsedL l).2.1 ≠ 0 → (parsedL l).1 = zeroJ) := by
  unfold parsedL readL
  split
  · exact ⟨fun h => (by cases h), fun _ => rfl⟩
  · split
    · rename_i he; exact ⟨fun h => absurd h he, fun _ => rfl⟩
    · split
      · exact ⟨fun h => (by cases h), fun _ => rfl⟩
      · exact ⟨fun _ => rfl, fun h => absurd rfl h⟩
/-- What Parse tells, whatever comes. -/
def PAll (W : World) (r : J × Int × Int) (e : Ending) (w' : World) : Prop :=
  ∃ v ev, e = .returned (.tuple #[v, ev]) ∧ RepS w' (fun b => W.heap.size ≤ b) r.1 v ∧ JErr r.2.1 r.2.2 ev w' ∧ Below W.heap.size W w'
theorem parse_tells (A : Option Addr) (xs : List Int) (n c : Nat) (W : World) (hn : xs.length = n) (hn2 : n ≤ 9223372036854775807) (hx : Bytes xs) (hl : Lies W A xs) (hm : Marks W) (ht : ErrTab W) :
    Calls Tryz.prog 11 #[.slice A n c] W (PAll W (parsedL xs)) := by
  obtain ⟨e1, e2⟩ := parsedL_ends xs
  refine (parse_any A xs n c W hn hn2 hx hl hm ht).mono ?_
  rintro e w' hp
  rcases hp with (⟨h0, v, rfl, hr, hb⟩ | ⟨h0, b, rfl, c0, c1, _, hb⟩) | ⟨h0, h1, rfl, hb⟩
  · exact ⟨v, _, rfl, hr, .inl ⟨h0, e1 h0, rfl⟩, hb⟩
  · exact ⟨_, _, rfl, by rw [e2 h0]; exact RepS.zero _ _, .inr (.inr ⟨h0, b, rfl, c0, c1⟩), hb⟩
  · exact ⟨_, _, rfl, by rw [e2 h0]; exact RepS.zero _ _, .inr (.inl ⟨h0, h1, rfl⟩), hb⟩
mutual
def mildB : J → Bool
  | .mk _ _ s l k => decide (s.size ≤ 1000000000) && k.all (fun t => decide (t.size ≤ 1000000000)) && mildBs l
def mildBs : List J → Bool
  | [] => true
  | x :: r => mildB x && mildBs r
end
theorem mild_of (j : J) : mildB j = true → Mild j := by
  induction j using J.ind with
  | h kind n s l k ih =>
    intro h
    rw [mildB] at h
    simp only [Bool.and_eq_true, decide_eq_true_eq, List.all_eq_true] at h
    have key : ∀ (l : List J), (∀ x ∈ l, mildB x = true → Mild x) → mildBs l = true → ∀ x ∈ l, Mild x := fun l => by
      induction l with
      | nil => intro _ _ x hx; cases hx
      | cons y r ihr =>
        intro ih h x hx
        rw [mildBs, Bool.and_eq_true] at h
        rcases List.mem_cons.1 hx with rfl | hx
        · exact ih _ (by simp) h.1
        · exact ihr (fun z hz => ih z (List.mem_cons_of_mem _ hz)) h.2 x hx
    exact .mk kind n s l k h.1.1 h.1.2 (key l ih h.2)
/-- What the laws ask of the world. -/
structure Ask5 (w : World) : Prop where
  tab : ErrTab w
  marks : Marks w
theorem Ask5.below {w w' : World} (h : Ask5 w) (hb : Below w.heap.size w w') : Ask5 w' := ⟨h.tab.below hb, h.marks.below hb⟩
def tx1 : List Int := [123, 34, 98, 34, 58, 49, 44, 34, 97, 34, 58, 91, 116, 114, 117, 101, 44, 34, 92, 117, 50, 48, 97, 99, 34, 93, 125]
def tx2 : List Int := [123, 34, 97, 34, 58, 49, 44, 34, 97, 34, 58, 50, 125]
def tx3 : List Int := [91, 49, 46, 53, 93]
end Go.Proofs.YtblheibknpphkaaGreatDoor
namespace Go.Proofs.YtblheibknpphkaaGreatDoor
open Go Go.RowKit
def jx1 : J := .mk 5 0 ⟨#[]⟩ [.mk 4 0 ⟨#[]⟩ [.mk 1 1 ⟨#[]⟩ [] [], .mk 3 0 ⟨#[226, 130, 172]⟩ [] []] [], .mk 2 1 ⟨#[]⟩ [] []] [⟨#[97]⟩, ⟨#[98]⟩]
theorem jp1 : parsedL tx1 = (jx1, 0, -1) := by kernel_rfl
theorem jp2 : parsedL tx2 = (zeroJ, 52, 7) := by kernel_rfl
theorem jp3 : parsedL tx3 = (zeroJ, 50, 2) := by kernel_rfl
def tx4 : List Int := [123, 34, 97, 34, 58, 91, 116, 114, 117, 101, 44, 34, 226, 130, 172, 34, 93, 44, 34, 98, 34, 58, 49, 125]
theorem pr1 : printJ jx1 = (tx4, 0) := by kernel_rfl
theorem str4 : toS tx4 = ⟨#[123, 34, 97, 34, 58, 91, 116, 114, 117, 101, 44, 34, 226, 130, 172, 34, 93, 44, 34, 98, 34, 58, 49, 125]⟩ := by decide +kernel
theorem byt1 : Bytes tx1 := .of_mem (by decide)
theorem byt2j : Bytes tx2 := .of_mem (by decide)
theorem byt3j : Bytes tx3 := .of_mem (by decide)
theorem alive_p1 (W : World) (ha : Ask5 W) : Calls Tryz.prog 11 #[.slice (some ⟨W.heap.size, 0, none⟩) 27 27] (W.alloc (.cells (ints .u8 [123, 34, 98, 34, 58, 49, 44, 34, 97, 34, 58, 91, 116, 114, 117, 101, 44, 34, 92, 117, 50, 48, 97, 99, 34, 93, 125]).toArray 5 (27, 28))) fun e w' => ∃ A c K d, e = .returned (.tuple #[.agg #[.int .i64 5, .int .i64 0, .string ⟨#[]⟩, .slice A 2 c, .slice K 2 d], .nilIface]) ∧ RepJ w' jx1 (.agg #[.int .i64 5, .int .i64 0, .string ⟨#[]⟩, .slice A 2 c, .slice K 2 d]) ∧ Below W.heap.size W w' := by
  refine (parse_tells (some ⟨W.heap.size, 0, none⟩) tx1 27 27 _ rfl (by omega) byt1 (Lies.lit W _ _ _) (ha.marks.below (belowAlloc _ _)) (ha.tab.below (belowAlloc _ _))).mono ?_
  rintro e w' ⟨v, ev, rfl, hr, he, hb⟩
  rw [jp1] at hr he
  have hv : ev = .nilIface := by
    rcases he with ⟨_, _, h⟩ | ⟨h, _⟩ | ⟨h, _⟩
    · exact h
    · exact absurd rfl h
    · exact absurd rfl h
  subst hv
  obtain ⟨vk, A, c, rfl, _, ⟨K, d, rfl, _, _⟩, _, _⟩ := hr.open
  exact ⟨A, c, K, d, rfl, RepS.toJ _ _ hr, (belowAlloc W _).trans (hb.mono (belowAlloc W _).size)⟩
theorem alive_p2 (W : World) (ha : Ask5 W) : Calls Tryz.prog 11 #[.slice (some ⟨W.heap.size, 0, none⟩) 13 13] (W.alloc (.cells (ints .u8 [123, 34, 97, 34, 58, 49, 44, 34, 97, 34, 58, 50, 125]).toArray 5 (13, 14))) fun e w' => ∃ A c K d ev, e = .returned (.tuple #[.agg #[.int .i64 0, .int .i64 0, .string ⟨#[]⟩, .slice A 0 c, .slice K 0 d], ev]) ∧ JErr 52 7 ev w' ∧ Below W.heap.size W w' := by
  refine (parse_tells (some ⟨W.heap.size, 0, none⟩) tx2 13 13 _ rfl (by omega) byt2j (Lies.lit W _ _ _) (ha.marks.below (belowAlloc _ _)) (ha.tab.below (belowAlloc _ _))).mono ?_
  rintro e w' ⟨v, ev, rfl, hr, he, hb⟩
  rw [jp2] at hr he
  obtain ⟨vk, A, c, rfl, _, ⟨K, d, rfl, _, _⟩, _, _⟩ := hr.open
  exact ⟨A, c, K, d, ev, rfl, he, (belowAlloc W _).trans (hb.mono (belowAlloc W _).size)⟩
theorem alive_p3 (W : World) (ha : Ask5 W) : Calls Tryz.prog 11 #[.slice (some ⟨W.heap.size, 0, none⟩) 5 5] (W.alloc (.cells (ints .u8 [91, 49, 46, 53, 93]).toArray 5 (5, 6))) fun e w' => ∃ A c K d ev, e = .returned (.tuple #[.agg #[.int .i64 0, .int .i64 0, .string ⟨#[]⟩, .slice A 0 c, .slice K 0 d], ev]) ∧ JErr 50 2 ev w' ∧ Below W.heap.size W w' := by
  refine (parse_tells (some ⟨W.heap.size, 0, none⟩) tx3 5 5 _ rfl (by omega) byt3j (Lies.lit W _ _ _) (ha.marks.below (belowAlloc _ _)) (ha.tab.below (belowAlloc _ _))).mono ?_
  rintro e w' ⟨v, ev, rfl, hr, he, hb⟩
  rw [jp3] at hr he
  obtain ⟨vk, A, c, rfl, _, ⟨K, d, rfl, _, _⟩, _, _⟩ := hr.open
  exact ⟨A, c, K, d, ev, rfl, he, (belowAlloc W _).trans (hb.mono (belowAlloc W _).size)⟩
theorem alive_pr (W : World) (v : Value) (ha : Ask5 W) (hj : RepJ W jx1 v) : Calls Tryz.prog 17 #[v] W fun e w' => e = .returned (.tuple #[.string ⟨#[123, 34, 97, 34, 58, 91, 116, 114, 117, 101, 44, 34, 226, 130, 172, 34, 93, 44, 34, 98, 34, 58, 49, 125]⟩, .nilIface]) ∧ Below W.heap.size W w' := by
  refine (printJ_any jx1 v W hj (mild_of _ (by decide +kernel)) ha.marks).mono ?_
  rintro e w' ⟨rfl, _, hb⟩
  rw [pr1, str4]
  exact ⟨rfl, hb⟩
set_option maxRecDepth 100000 in
set_option maxHeartbeats 4000000 in
theorem alive5_any (w : World) (ha : Ask5 w) : Calls Tryz.prog 10 #[] w fun e w' => e = .returned (.bool true) ∧ Below w.heap.size w w' := by
  have kc := fun (w : World) (C : Array Value) (n c : Nat) => Lib.run_convert_bytes_const (P := Tryz.prog) w 31 5 C n c Tryz.underlying31 Tryz.underlying5
  have HA := Lib.hid ha
  clear ha
  go_enter Tryz.func10, Tryz.ntmps10
  go_wp2_with fail
  refine (alive_p1 _ HA.out).mono ?_
  rintro e w1 ⟨A, c, K, d, rfl, hr, hb⟩
  have HR := Lib.hid hr
  have HB1 := Lib.hid hb
  clear hr hb
  go_wp2_with (first | (refine wpList_alloc_blk rfl (some 1) rfl _ rfl _ zeroJs ?_; intro g1 wa1 hg1 hb1 hgr1; have HA1 := Lib.hid hgr1; have HG1 := Lib.hid hg1; clear hgr1 hg1; try go_frame) | (refine wpList_store_blk rfl none rfl _ (.tmp 1) _ rfl g1 0 [.int .i64 5, .int .i64 0, .string ⟨#[]⟩, .slice A 2 c, .slice K 2 d] rfl rfl _ _ hb1 (by simp [zeros5]) sizeJson (by intro v hv; simp at hv; rcases hv with rfl | rfl | rfl | rfl | rfl <;> rfl) ?_; intro ws1 hc1 hgs1; rw [splice_all _ _ (by simp [zeros5])] at hc1; have HS1 := Lib.hid (mid_below HB1.out HA1.out HG1.out hgs1); have HM1 := Lib.hid (mid_below (Below.refl _ _) HA1.out HG1.out hgs1); obtain ⟨x10, x11, x12, x13, x14⟩ : ws1.cell? ⟨g1, 0, none⟩ = some (.int .i64 5) ∧ ws1.cell? ⟨g1, 1, none⟩ = some (.int .i64 0) ∧ ws1.cell? ⟨g1, 2, none⟩ = some (.string ⟨#[]⟩) ∧ ws1.cell? ⟨g1, 3, none⟩ = some (.slice A 2 c) ∧ ws1.cell? ⟨g1, 4, none⟩ = some (.slice K 2 d) := ⟨hc1.cell 0, hc1.cell 1, hc1.cell 2, hc1.cell 3, hc1.cell 4⟩; have HK1 := Lib.hid hc1; clear hgs1 hc1; try go_frame))
  refine (alive_pr _ _ (HA.out.below HS1.out) (RepJ.below HM1.out _ _ HR.out)).mono ?_
  rintro e w2 ⟨rfl, hb⟩
  have HB2 := Lib.hid (HS1.out.trans (hb.mono HS1.out.size))
  clear hb
  go_wp2_with fail
  refine (alive_p2 _ (HA.out.below HB2.out)).mono ?_
  rintro e w3 ⟨A2, c2, K2, d2, ev2, rfl, he2, hb⟩
  have HB3 := Lib.hid (HB2.out.trans (hb.mono HB2.out.size))
  have HE2 := Lib.hid he2
  clear hb he2
  go_wp2_with (first | (refine wpList_alloc_blk rfl (some 5) rfl _ rfl _ zeroJs ?_; intro g5 wa5 hg5 hb5 hgr5; have HA5 := Lib.hid hgr5; have HG5 := Lib.hid hg5; clear hgr5 hg5; try go_frame) | (refine wpList_store_blk rfl none rfl _ (.tmp 5) _ rfl g5 0 [.int .i64 0, .int .i64 0, .string ⟨#[]⟩, .slice A2 0 c2, .slice K2 0 d2] rfl rfl _ _ hb5 (by simp [zeros5]) sizeJson (by intro v hv; simp at hv; rcases hv with rfl | rfl | rfl | rfl | rfl <;> rfl) ?_; intro ws5 hc5 hgs5; rw [splice_all _ _ (by simp [zeros5])] at hc5; have HS5 := Lib.hid (mid_below HB3.out HA5.out HG5.out hgs5); have HM5 := Lib.hid (mid_below (Below.refl _ _) HA5.out HG5.out hgs5); have HK5 := Lib.hid hc5; clear hgs5 hc5; try go_frame))
  refine (alive_p3 _ (HA.out.below HS5.out)).mono ?_
  rintro e w4 ⟨A3, c3, K3, d3, ev3, rfl, he3, hb⟩
  have HB4 := Lib.hid (HS5.out.trans (hb.mono HS5.out.size))
  have HE3 := Lib.hid he3
  have HE22 := Lib.hid (HE2.out.below (HM5.out.trans (hb.mono HM5.out.size)))
  clear hb he3
  go_wp2_with (first | (refine wpList_alloc_blk rfl (some 7) rfl _ rfl _ zeroJs ?_; intro g7 wa7 hg7 hb7 hgr7; have HA7 := Lib.hid hgr7; have HG7 := Lib.hid hg7; clear hgr7 hg7; try go_frame) | (refine wpList_store_blk rfl none rfl _ (.tmp 7) _ rfl g7 0 [.int .i64 0, .int .i64 0, .string ⟨#[]⟩, .slice A3 0 c3, .slice K3 0 d3] rfl rfl _ _ hb7 (by simp [zeros5]) sizeJson (by intro v hv; simp at hv; rcases hv with rfl | rfl | rfl | rfl | rfl <;> rfl) ?_; intro ws7 hc7 hgs7; rw [splice_all _ _ (by simp [zeros5])] at hc7; have HS7 := Lib.hid (mid_below HB4.out HA7.out HG7.out hgs7); have HM7 := Lib.hid (mid_below (Below.refl _ _) HA7.out HG7.out hgs7); have HK7 := Lib.hid hc7; clear hgs7 hc7; try go_frame))
  refine (numJ (HE22.out.below HM7.out) (HA.out.tab.below HS7.out)).mono ?_
  rintro e w5 ⟨rfl, hb5⟩
  have HB5 := Lib.hid (HS7.out.trans (hb5.mono HS7.out.size))
  have HM5' := Lib.hid (HM7.out.trans (hb5.mono HM7.out.size))
  clear hb5
  go_wp2_with fail
  refine (posJ (HE22.out.below HM5'.out) (HA.out.tab.below HB5.out)).mono ?_
  rintro e w6 ⟨rfl, hb6⟩
  have HB6 := Lib.hid (HB5.out.trans (hb6.mono HB5.out.size))
  have HM6 := Lib.hid (HM5'.out.trans (hb6.mono HM5'.out.size))
  clear hb6
  go_wp2_with fail
  refine (numJ (HE3.out.below HM6.out) (HA.out.tab.below HB6.out)).mono ?_
  rintro e w7 ⟨rfl, hb7⟩
  have HB7 := Lib.hid (HB6.out.trans (hb7.mono HB6.out.size))
  have HM7' := Lib.hid (HM6.out.trans (hb7.mono HM6.out.size))
  clear hb7
  go_wp2_with fail
  refine (posJ (HE3.out.below HM7'.out) (HA.out.tab.below HB7.out)).mono ?_
  rintro e w8 ⟨rfl, hb8⟩
  have HB8 := Lib.hid (HB7.out.trans (hb8.mono HB7.out.size))
  clear hb8
  go_wp2_with fail
  go_ret
  exact ⟨rfl, HB8.out⟩
end Go.Proofs.YtblheibknpphkaaGreatDoor
namespace Go.Proofs.YtblheibknpphkaaGreatDoor
open Go Go.RowKit
mutual
theorem sameJ_refl : ∀ j : J, sameJ j j = true
  | .mk k n s l m => by rw [sameJ, sameLs_refl l]; simp
theorem sameLs_refl : ∀ l : List J, sameLs l l = true
  | [] => by rw [sameLs]
  | x :: r => by rw [sameLs, sameJ_refl x, sameLs_refl r]; rfl
end
theorem RepJ.form {W : World} {j : J} {v : Value} (h : RepJ W j v) : ∃ x0 x1 x2 A p c K q d, v = .agg #[.int .i64 x0, .int .i64 x1, .string x2, .slice A p c, .slice K q d] := by
  obtain ⟨vk, A, c, rfl, _, hk, _, _⟩ := h.open
  obtain ⟨K, d, rfl, _, _⟩ := hk.open
  exact ⟨_, _, _, _, _, _, _, _, _, rfl⟩
/-- What Parse tells of a string's bytes. -/
theorem parse_str (s : ByteArray) (c : Nat) (W : World) (ha : Ask5 W) (hs : s.size ≤ 5000) : Calls Tryz.prog 11 #[.slice (some ⟨W.heap.size, 0, none⟩) s.size c] (Lib.bytesWorld W 5 s) fun e w' =>
    ∃ x0 x1 x2 xA xp xc xK xq xd ev, e = .returned (.tuple #[.agg #[.int .i64 x0, .int .i64 x1, .string x2, .slice xA xp xc, .slice xK xq xd], ev]) ∧ RepJ w' (parsedL (strL s)).1 (.agg #[.int .i64 x0, .int .i64 x1, .string x2, .slice xA xp xc, .slice xK xq xd]) ∧ JErr (parsedL (strL s)).2.1 (parsedL (strL s)).2.2 ev w' ∧ Below W.heap.size W w' := by
  refine (parse_tells (some ⟨W.heap.size, 0, none⟩) (strL s) s.size c _ (length_strL s) (by omega) (strL_bd s) (liesBytes W 5 s) (ha.marks.below (belowBytes W _ s)) (ha.tab.below (belowBytes W _ s))).mono ?_
  rintro e w' ⟨v, ev, rfl, hr, he, hb⟩
  have hj := RepS.toJ _ _ hr
  obtain ⟨x0, x1, x2, A, p, c, K, q, d, rfl⟩ := hj.form
  exact ⟨_, _, _, _, _, _, _, _, _, ev, rfl, hj, he, (belowBytes W 5 s).trans (hb.mono (belowBytes W 5 s).size)⟩
end Go.Proofs.YtblheibknpphkaaGreatDoor
