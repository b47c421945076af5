/- PolWr1, PolWr2, PolWr3, PolWr4, PolWr5, PolWr6: merged. -/
import Derived.Test.YtcjfealalokjaaaGreatDoorPa15
set_option linter.all false
namespace Go.Proofs.YtcjfealalokjaaaGreatDoor
open Go Go.RowKit
/-- The world while a text is written: the builder, and lex's tables below it. -/
structure WrI (B b : Nat) (acc : List Int) (w : World) : Prop where
  bld : IsWbl B b (ints .u8 acc) w
  le : B ≤ w.heap.size
  ml : 2 < B
  marks : Marks w
theorem WrI.tell {B b : Nat} {acc add : List Int} {w w' : World} {e : Ending} (h : WrI B b acc w) (ht : WTell B b acc add w e w') : WrI B b (acc ++ add) w' :=
  ⟨ht.2.1, Nat.le_trans h.le ht.2.2.1.size, h.ml, Blk.below h.marks ht.2.2.1 h.ml⟩
theorem WrI.alloc {B b : Nat} {acc : List Int} {w : World} (h : WrI B b acc w) (o : Obj) : WrI B b acc (w.alloc o) :=
  ⟨IsBelowW h.bld (belowAlloc w o), Nat.le_trans h.le (World.grownBy_alloc w o none).size, h.ml, Blk.grownN h.marks (World.grownBy_alloc w o none)⟩
where IsBelowW {B b : Nat} {bs : List Value} {w w' : World} (h : IsWbl B b bs w) (hb : Below w.heap.size w w') : IsWbl B b bs w' := IsWbl.below h hb
theorem WrI.below {B b : Nat} {acc : List Int} {w w' : World} (h : WrI B b acc w) (hb : Below w.heap.size w w') : WrI B b acc w' :=
  ⟨IsWbl.below h.bld hb, Nat.le_trans h.le hb.size, h.ml, Marks.below h.marks hb⟩
theorem WTell.seq {B b : Nat} {acc x y : List Int} {w w1 w2 : World} {e1 e2 : Ending} (h1 : WTell B b acc x w e1 w1) (h2 : WTell B b (acc ++ x) y w1 e2 w2) : WTell B b acc (x ++ y) w e2 w2 :=
  ⟨h2.1, by rw [← List.append_assoc]; exact h2.2.1, h1.2.2.1.trans h2.2.2.1, h1.2.2.2.trans h2.2.2.2⟩
/-- Below a builder, and all that isn't its own, across an allocation. -/
theorem WTell.from {B b : Nat} {acc x : List Int} {w w1 w2 : World} {e : Ending} (hb : Below B w w1) (hk : KeepW b w w1) (h : WTell B b acc x w1 e w2) : WTell B b acc x w e w2 :=
  ⟨h.1, h.2.1, hb.trans h.2.2.1, hk.trans h.2.2.2⟩
theorem put_new {B b : Nat} {acc : List Int} (l : List ByteArray) {w : World} (h : WrI B b acc w) (hl : l.length ≤ 1000) (hlen : acc.length + (catL l).length ≤ 140737488355328) (c : Nat) :
    Calls Tryz.prog 67 #[.pointer (some ⟨b, 0, none⟩), .slice (some ⟨w.heap.size, 0, none⟩) l.length c] (w.alloc (.cells (l.map Value.string).toArray 9)) (WTell B b acc (catL l) w) := by
  have hlt := wbl_lt h.bld
  refine (wPut_any B b acc l w.heap.size 0 c _ (h.alloc _).bld (h.alloc _).le (by omega) (blkNew' w _ _) rfl hl hlen).mono ?_
  intro e w' ht
  exact ht.from ((belowAlloc w _).mono h.le) (KeepW.grownN (World.grownBy_alloc w _ none))
where blkNew' (w : World) (cs : List Value) (t : TypeId) : Blk (w.alloc (.cells cs.toArray t)) w.heap.size t cs := heap_alloc_new w _
set_option maxRecDepth 100000 in
set_option maxHeartbeats 1000000 in
theorem wQuoted_any {B b : Nat} {acc : List Int} (s : ByteArray) {w : World} (h : WrI B b acc w) (hs : s.size ≤ 1000000000) (hlen : acc.length + (quoteL s).length ≤ 140737488355328) :
    Calls Tryz.prog 121 #[.pointer (some ⟨b, 0, none⟩), .string s] w (WTell B b acc (quoteL s) w) := by
  have HS := Lib.hid (lexSpell_any 2 0 0 s w h.marks hs (by decide))
  unfold tokV at HS
  have HH := Lib.hid h
  obtain ⟨T, hT⟩ : ∃ T, T = toS (spellN ⟨2, s, 0, 0⟩) := ⟨_, rfl⟩
  rw [← hT] at HS
  have HT : Hid (catL [T] = quoteL s) := Lib.hid (by
    show strL T ++ [] = _
    rw [List.append_nil, hT, strL_toS (spellN_bytes _)]
    rfl)
  clear h hT
  go_enter Tryz.func121, Tryz.ntmps121
  go_wp2_with fail
  (with_reducible refine HS.out.mono ?_)
  rintro e w1 ⟨rfl, hb⟩
  have HP : Hid (Calls Tryz.prog 67 #[.pointer (some ⟨b, 0, none⟩), .slice (some ⟨w1.heap.size, 0, none⟩) 1 1] (w1.alloc (.cells #[.string T] 9)) (WTell B b acc (catL [T]) w1)) := Lib.hid (put_new [T] (HH.out.below hb) (by simp) (by rw [HT.out]; exact hlen) 1)
  have HB := Lib.hid hb
  clear hb
  go_wp2_with fail
  (with_reducible refine HP.out.mono ?_)
  rintro e w2 ht
  have H2 := Lib.hid (ht.from (HB.out.mono HH.out.le) (KeepW.below HB.out))
  rw [HT.out] at H2
  obtain ⟨rfl, _⟩ := ht
  go_wp2
  go_end0
  exact H2.out
set_option maxRecDepth 100000 in
set_option maxHeartbeats 1000000 in
theorem wTruth_any {B b : Nat} {acc : List Int} (n : Int) {w : World} (h : WrI B b acc w) (hlen : acc.length + 5 ≤ 140737488355328 ∨ n ≠ 0 ∧ acc.length + 4 ≤ 140737488355328) :
    Calls Tryz.prog 175 #[.pointer (some ⟨b, 0, none⟩), .int .i64 n] w (WTell B b acc (if n = 0 then [102, 97, 108, 115, 101] else [116, 114, 117, 101]) w) := by
  by_cases h0 : n = 0
  · subst h0
    rw [if_pos rfl]
    have HP : Hid (Calls Tryz.prog 67 #[.pointer (some ⟨b, 0, none⟩), .slice (some ⟨w.heap.size, 0, none⟩) 1 1] (w.alloc (.cells #[.string ⟨#[102, 97, 108, 115, 101]⟩] 9)) (WTell B b acc [102, 97, 108, 115, 101] w)) := Lib.hid (put_new [⟨#[102, 97, 108, 115, 101]⟩] h (by decide) (by show _ + 5 ≤ _; rcases hlen with h | h; exact h; exact absurd rfl h.1) 1)
    clear h
    go_enter Tryz.func175, Tryz.ntmps175
    go_wp2_with fail
    (with_reducible refine HP.out.mono ?_)
    rintro e w2 ht
    have H2 := Lib.hid ht
    obtain ⟨rfl, _⟩ := ht
    go_wp2
    go_end0
    exact H2.out
  · rw [if_neg h0]
    have e0 : (n == 0) = false := by rw [beq_eq_false_iff_ne]; exact h0
    have HP : Hid (Calls Tryz.prog 67 #[.pointer (some ⟨b, 0, none⟩), .slice (some ⟨w.heap.size, 0, none⟩) 1 1] (w.alloc (.cells #[.string ⟨#[116, 114, 117, 101]⟩] 9)) (WTell B b acc [116, 114, 117, 101] w)) := Lib.hid (put_new [⟨#[116, 114, 117, 101]⟩] h (by decide) (by show _ + 4 ≤ _; omega) 1)
    clear h h0
    go_enter Tryz.func175, Tryz.ntmps175
    go_wp2_with fail
    (with_reducible refine HP.out.mono ?_)
    rintro e w2 ht
    have H2 := Lib.hid ht
    obtain ⟨rfl, _⟩ := ht
    go_wp2
    go_end0
    exact H2.out
theorem wTruth_any2 {B b : Nat} {acc : List Int} (n : Int) {w : World} (h : WrI B b acc w) (hlen : acc.length + (if n = 0 then [102, 97, 108, 115, 101] else [116, 114, 117, 101] : List Int).length ≤ 140737488355328) :
    Calls Tryz.prog 175 #[.pointer (some ⟨b, 0, none⟩), .int .i64 n] w (WTell B b acc (if n = 0 then [102, 97, 108, 115, 101] else [116, 114, 117, 101]) w) := by
  by_cases h0 : n = 0
  · rw [if_pos h0] at hlen; exact wTruth_any n h (.inl hlen)
  · rw [if_neg h0] at hlen; exact wTruth_any n h (.inr ⟨h0, hlen⟩)
/-- The word or sign of an op between two operands. -/
def signS (op : Int) : ByteArray := if op = 9 then kEq else if op = 10 then kNe else if op = 14 then wHas else if op = 11 then kLt else if op = 12 then kLe else E0
set_option maxRecDepth 100000 in
theorem wSaidOf_any (op : Int) (w : World) : Calls Tryz.prog 150 #[.int .i64 op] w fun e w' => e = .returned (.string (signS op)) ∧ w = w' := by
  have lit : ∀ (x : Int), x = 9 ∨ x = 10 ∨ x = 14 ∨ x = 11 ∨ x = 12 → Calls Tryz.prog 150 #[.int .i64 x] w fun e w' => e = .returned (.string (signS x)) ∧ w = w' := fun x hx => by
    rcases hx with rfl | rfl | rfl | rfl | rfl
    all_goals
      go_enter Tryz.func150, Tryz.ntmps150
      go_wp2
      go_ret
      exact ⟨rfl, rfl⟩
  by_cases h : op = 9 ∨ op = 10 ∨ op = 14 ∨ op = 11 ∨ op = 12
  · exact lit op h
  · have e1 : (op == 9) = false := by rw [beq_eq_false_iff_ne]; omega
    have e2 : (op == 10) = false := by rw [beq_eq_false_iff_ne]; omega
    have e3 : (op == 14) = false := by rw [beq_eq_false_iff_ne]; omega
    have e4 : (op == 11) = false := by rw [beq_eq_false_iff_ne]; omega
    have e5 : (op == 12) = false := by rw [beq_eq_false_iff_ne]; omega
    have es : signS op = E0 := by unfold signS; rw [if_neg (by omega), if_neg (by omega), if_neg (by omega), if_neg (by omega), if_neg (by omega)]
    rw [es]
    clear lit h es
    go_enter Tryz.func150, Tryz.ntmps150
    go_wp2
    go_ret
    exact ⟨rfl, rfl⟩
end Go.Proofs.YtcjfealalokjaaaGreatDoor
namespace Go.Proofs.YtcjfealalokjaaaGreatDoor
open Go Go.RowKit
/-- Expressions whose texts are no longer than may be held. -/
inductive MildE : Ex → Prop
  | mk {op n p : Int} {s : ByteArray} {l : List Ex} : s.size ≤ 1000000000 → l.length ≤ 1000000 → (∀ x ∈ l, MildE x) → MildE (.mk op s n l p)
/-- What is asked of the writer of an expression, at every level. -/
def EAsk (B b f : Nat) (e : Ex) : Prop := ∀ (lv : Nat) (w : World) (acc : List Int) (v : Value), lv ≤ 4 → WrI B b acc w → RepE w (fun x => x < B) e v → acc.length + (textF f e (lv + 1)).length ≤ 140737488355328 →
  Calls Tryz.prog 122 #[.pointer (some ⟨b, 0, none⟩), v, .int .i64 (lv : Int)] w (WTell B b acc (textF f e (lv + 1)) w)
def OAskW (B b f : Nat) (e : Ex) : Prop := ∀ (w : World) (acc : List Int) (v : Value), WrI B b acc w → RepE w (fun x => x < B) e v → acc.length + (textF f e 5).length ≤ 140737488355328 →
  Calls Tryz.prog 151 #[.pointer (some ⟨b, 0, none⟩), v] w (WTell B b acc (textF f e 5) w)
theorem RepE.wtell {B b : Nat} {acc add : List Int} {w w' : World} {e : Ending} {x : Ex} {v : Value} (ht : WTell B b acc add w e w') (h : RepE w (fun k => k < B) x v) : RepE w' (fun k => k < B) x v := RepE.keeps (Keeps.below ht.2.2.1 (fun _ h _ => h)) (fun _ h _ => h) _ _ h
set_option maxRecDepth 100000 in
set_option maxHeartbeats 4000000 in
theorem two_of {B b f : Nat} {acc : List Int} {op n p : Int} {s said : ByteArray} {x y : Ex} {l : List Ex} (hx : EAsk B b f x) (hy : EAsk B b f y) {w : World} {v : Value} (h : WrI B b acc w) (hv : RepE w (fun k => k < B) (.mk op s n (x :: y :: l) p) v) (a c : Nat) (ha : a ≤ 4) (hc : c ≤ 4)
    (hlen : acc.length + (textF f x (a + 1) ++ (32 :: (strL said ++ [32])) ++ textF f y (c + 1)).length ≤ 140737488355328) :
    Calls Tryz.prog 148 #[.pointer (some ⟨b, 0, none⟩), v, .int .i64 (a : Int), .string said, .int .i64 (c : Int)] w (WTell B b acc (textF f x (a + 1) ++ (32 :: (strL said ++ [32])) ++ textF f y (c + 1)) w) := by
  have hv0 := hv
  rw [RepE] at hv
  obtain ⟨A, cc, rfl, _, hl, hcs⟩ := hv
  obtain ⟨g, o, rfl, hgB, hgl, hrep⟩ := hcs (by simp)
  rw [RepEs, RepEs] at hrep
  obtain ⟨⟨vx, hrx, hfx⟩, ⟨vy, hry, hfy⟩, _⟩ := hrep
  obtain ⟨x0, x1, x2, X, xn, xc, x4, rfl⟩ := hrx.form
  obtain ⟨y0, y1, y2, Y, yn, yc, y4, rfl⟩ := hry.form
  obtain ⟨a0, a1, a2, a3, a4, e, k0, k1, k2, k3, k4⟩ := hfx
  simp only [Value.agg.injEq, Array.mk.injEq, List.cons.injEq, and_true] at e
  obtain ⟨rfl, rfl, rfl, rfl, rfl⟩ := e
  obtain ⟨a0, a1, a2, a3, a4, e, m0, m1, m2, m3, m4⟩ := hfy
  simp only [Value.agg.injEq, Array.mk.injEq, List.cons.injEq, and_true] at e
  obtain ⟨rfl, rfl, rfl, rfl, rfl⟩ := e
  obtain ⟨L, hL⟩ : ∃ L, L = (x :: y :: l).length := ⟨_, rfl⟩
  have hL2 : 2 ≤ L := by rw [hL]; simp
  rw [← hL] at hv0 ⊢
  have HV := Lib.hid (And.intro hrx (And.intro hry hgB))
  have HH := Lib.hid h
  have HLN := Lib.hid hlen
  simp only [List.length_append, List.length_cons, List.length_nil, length_strL] at hlen
  have hbl := wbl_lt h.bld
  obtain ⟨w1, hw1⟩ : ∃ W, W = w.alloc (.cells #[.int .i64 op, .string s, .int .i64 n, .slice (some ⟨g, o, none⟩) L cc, .int .i64 p] 42) := ⟨_, rfl⟩
  have gw1 : w.grownBy w1 none := by rw [hw1]; exact World.grownBy_alloc _ _ none
  have hE1 : Blk w1 w.heap.size 42 [.int .i64 op, .string s, .int .i64 n, .slice (some ⟨g, o, none⟩) L cc, .int .i64 p] := by rw [hw1]; exact heap_alloc_new w _
  have hI1 : WrI B b acc w1 := by rw [hw1]; exact h.alloc _
  have hx1 := RepE.keeps (S := fun k => k < B) (T := fun k => k < B) (Keeps.grown gw1 (fun b _ e => by cases e)) (fun _ h _ => h) _ _ hrx
  have hy1 := RepE.keeps (S := fun k => k < B) (T := fun k => k < B) (Keeps.grown gw1 (fun b _ e => by cases e)) (fun _ h _ => h) _ _ hry
  have HX := Lib.hid (hx a w1 acc _ ha hI1 hx1 (by omega))
  have HK1 := Lib.hid (show Below B w w1 ∧ KeepW b w w1 from ⟨by rw [hw1]; exact (belowAlloc w _).mono h.le, KeepW.grownN gw1⟩)
  have HE1 := Lib.hid hE1
  have HI1 := Lib.hid hI1
  have HY1 := Lib.hid hy1
  have HCY : Hid (w1.cell? ⟨g, o + 5, none⟩ = some (.int .i64 y0) ∧ w1.cell? ⟨g, o + 5 + 1, none⟩ = some (.string y1) ∧ w1.cell? ⟨g, o + 5 + 2, none⟩ = some (.int .i64 y2) ∧ w1.cell? ⟨g, o + 5 + 3, none⟩ = some (.slice Y yn yc) ∧ w1.cell? ⟨g, o + 5 + 4, none⟩ = some (.int .i64 y4)) := Lib.hid (by
    have e : ∀ x, w1.cell? ⟨g, x, none⟩ = w.cell? ⟨g, x, none⟩ := fun x => by simp [World.cell?, gw1.block g hgl (fun e => by cases e)]
    rw [e, e, e, e, e]; exact ⟨m0, m1, m2, m3, m4⟩)
  have HNE : Hid (w.heap.size ≠ b ∧ g < w1.heap.size) := Lib.hid ⟨by omega, Nat.lt_of_lt_of_le hgl gw1.size⟩
  have hL0 : (0 : Int) < (L : Int) := by omega
  have hL1 : (1 : Int) < (L : Int) := by omega
  have HW1 := Lib.hid hw1
  have HBND := Lib.hid hlen
  clear hL hw1 gw1 hE1 hI1 hx1 hy1 hv0 h hlen hrx hry m0 m1 m2 m3 m4 hbl HV HH HLN hx hl hL2
  go_enter Tryz.func148, Tryz.ntmps148
  go_wp2_with fail
  rw [← HW1.out]
  (with_reducible refine HX.out.mono ?_)
  rintro e w2 ht2
  have HT2 := Lib.hid ht2
  obtain ⟨rfl, _⟩ := ht2
  have HI2 := Lib.hid (HI1.out.tell HT2.out)
  have HP : Hid (Calls Tryz.prog 67 #[.pointer (some ⟨b, 0, none⟩), .slice (some ⟨w2.heap.size, 0, none⟩) 3 3] (w2.alloc (.cells #[.string ⟨#[32]⟩, .string said, .string ⟨#[32]⟩] 9)) (WTell B b (acc ++ textF f x (a + 1)) (32 :: (strL said ++ [32])) w2)) := Lib.hid (put_new [⟨#[32]⟩, said, ⟨#[32]⟩] HI2.out (by simp) (by
    have h1 := HBND.out
    show _ + (strL ⟨#[32]⟩ ++ (strL said ++ (strL ⟨#[32]⟩ ++ []))).length ≤ _
    simp only [List.length_append, List.length_nil, length_strL]
    show _ + (1 + (said.size + (1 + 0))) ≤ _
    omega) 3)
  go_wp2_with fail
  (with_reducible refine HP.out.mono ?_)
  rintro e w4 ht4
  have HT4 := Lib.hid ht4
  obtain ⟨rfl, _⟩ := ht4
  have HI4 := Lib.hid (HI2.out.tell HT4.out)
  have hE4 := HT4.out.2.2.2.2 _ _ _ HNE.out.1 (by decide) (HT2.out.2.2.2.2 _ _ _ HNE.out.1 (by decide) HE1.out)
  have q3 := hE4.cell 3
  have hb4 := HT2.out.2.2.1.trans HT4.out.2.2.1
  obtain ⟨m0, m1, m2, m3, m4⟩ := HCY.out
  have r0 := (hb4.cell (p := ⟨g, o + 5, none⟩) hgB).trans m0
  have r1 := (hb4.cell (p := ⟨g, o + 5 + 1, none⟩) hgB).trans m1
  have r2 := (hb4.cell (p := ⟨g, o + 5 + 2, none⟩) hgB).trans m2
  have r3 := (hb4.cell (p := ⟨g, o + 5 + 3, none⟩) hgB).trans m3
  have r4 := (hb4.cell (p := ⟨g, o + 5 + 4, none⟩) hgB).trans m4
  have HY := Lib.hid (hy c w4 _ _ hc HI4.out (RepE.wtell HT4.out (RepE.wtell HT2.out HY1.out)) (by
    have h1 := HBND.out
    simp only [List.length_append, List.length_cons, List.length_nil, length_strL]
    omega))
  clear m0 m1 m2 m3 m4 hE4 hb4 k0 k1 k2 k3 k4
  go_wp2_with fail
  (with_reducible refine HY.out.mono ?_)
  rintro e w6 ht6
  have HT6 := Lib.hid (((HT2.out.seq HT4.out).seq (by rw [← List.append_assoc]; exact ht6)).from HK1.out.1 HK1.out.2)
  obtain ⟨rfl, _⟩ := ht6
  go_wp2
  go_end0
  exact HT6.out
end Go.Proofs.YtcjfealalokjaaaGreatDoor
namespace Go.Proofs.YtcjfealalokjaaaGreatDoor
open Go Go.RowKit
theorem good_leaf {f : Nat} {op n p : Int} {s : ByteArray} {l : List Ex} (h : goodF (f + 1) (.mk op s n l p) = true) (h5 : op ≤ 5) : 1 ≤ op ∧ l = [] ∧ leafG op s n = true := by
  rw [goodF] at h
  by_cases h1 : op < 1 ∨ 14 < op
  · rw [if_pos h1] at h; cases h
  rw [if_neg h1, if_pos h5, Bool.and_eq_true] at h
  refine ⟨by omega, ?_, h.2⟩
  cases l with
  | nil => rfl
  | cons x r => cases h.1
set_option maxRecDepth 100000 in
set_option maxHeartbeats 4000000 in
theorem operand_leaf {B b f : Nat} {op n p : Int} {s : ByteArray} {l : List Ex} (hg : goodF (f + 1) (.mk op s n l p) = true) (h5 : op ≤ 5) (hs : s.size ≤ 1000000000) : OAskW B b (f + 1) (.mk op s n l p) := by
  obtain ⟨h1, rfl, hlf⟩ := good_leaf hg h5
  intro w acc v h hv hlen
  rw [RepE] at hv
  obtain ⟨A, cc, rfl, _, _, _⟩ := hv
  have htx : textF (f + 1) (.mk op s n [] p) 5 = bareF (f + 1) (.mk op s n [] p) := asked_bare (by unfold bindE; rw [show Ex.op (.mk op s n [] p) = op from rfl, if_pos h5]; exact Nat.le_refl _)
  rw [htx] at hlen ⊢
  clear htx hg
  obtain ⟨L, hL⟩ : ∃ L, L = ([] : List Ex).length := ⟨_, rfl⟩
  rw [← hL]
  clear hL
  rcases (show op = 1 ∨ op = 2 ∨ op = 3 ∨ op = 4 ∨ op = 5 by omega) with rfl | rfl | rfl | rfl | rfl
  · -- truth
    have hb : bareF (f + 1) (.mk 1 s n [] p) = if n = 0 then [102, 97, 108, 115, 101] else [116, 114, 117, 101] := by
      have hn : n = 0 ∨ n = 1 := by
        have := hlf
        unfold leafG at this
        rw [if_pos rfl, Bool.and_eq_true] at this
        exact of_decide_eq_true this.2
      rcases hn with rfl | rfl <;> rfl
    rw [hb] at hlen ⊢
    have hle : acc.length + 5 ≤ 140737488355328 ∨ acc.length + 4 ≤ 140737488355328 := by
      by_cases h0 : n = 0
      · rw [if_pos h0] at hlen; exact .inl hlen
      · rw [if_neg h0] at hlen; exact .inr hlen
    have hbl := wbl_lt h.bld
    obtain ⟨w1, hw1⟩ : ∃ W, W = w.alloc (.cells #[.int .i64 1, .string s, .int .i64 n, .slice A L cc, .int .i64 p] 42) := ⟨_, rfl⟩
    have gw1 : w.grownBy w1 none := by rw [hw1]; exact World.grownBy_alloc _ _ none
    have hE1 : Blk w1 w.heap.size 42 [.int .i64 1, .string s, .int .i64 n, .slice A L cc, .int .i64 p] := by rw [hw1]; exact heap_alloc_new w _
    have HI1 : Hid (WrI B b acc w1) := Lib.hid (by rw [hw1]; exact h.alloc _)
    have HK1 := Lib.hid (show Below B w w1 ∧ KeepW b w w1 from ⟨by rw [hw1]; exact (belowAlloc w _).mono h.le, KeepW.grownN gw1⟩)
    have HE1 := Lib.hid hE1
    have HNE : Hid (w.heap.size ≠ b) := Lib.hid (by omega)
    have HW1 := Lib.hid hw1
    have HP : Hid (Calls Tryz.prog 175 #[.pointer (some ⟨b, 0, none⟩), .int .i64 n] w1 (WTell B b acc (if n = 0 then [102, 97, 108, 115, 101] else [116, 114, 117, 101]) w1)) := Lib.hid (wTruth_any2 n HI1.out hlen)
    obtain ⟨X, hX⟩ : ∃ X, X = (if n = 0 then [102, 97, 108, 115, 101] else [116, 114, 117, 101] : List Int) := ⟨_, rfl⟩
    rw [← hX] at HP ⊢
    clear h hb hlen hle hlf hw1 gw1 hE1 hbl hX
    go_enter Tryz.func151, Tryz.ntmps151
    go_wp2_with fail
    rw [← HW1.out]
    (with_reducible refine HP.out.mono ?_)
    rintro e w2 ht2
    have HT2 := Lib.hid (ht2.from HK1.out.1 HK1.out.2)
    obtain ⟨rfl, _⟩ := ht2
    go_wp2
    go_end0
    exact HT2.out
  · -- a number
    have hn : -9007199254740991 ≤ n ∧ n ≤ 9007199254740991 := by
      have := hlf
      unfold leafG at this
      rw [if_neg (by decide), if_pos rfl, Bool.and_eq_true] at this
      exact of_decide_eq_true this.2
    have hb : bareF (f + 1) (.mk 2 s n [] p) = prL n := rfl
    rw [hb] at hlen ⊢
    have hbl := wbl_lt h.bld
    obtain ⟨w1, hw1⟩ : ∃ W, W = w.alloc (.cells #[.int .i64 2, .string s, .int .i64 n, .slice A L cc, .int .i64 p] 42) := ⟨_, rfl⟩
    have gw1 : w.grownBy w1 none := by rw [hw1]; exact World.grownBy_alloc _ _ none
    have hE1 : Blk w1 w.heap.size 42 [.int .i64 2, .string s, .int .i64 n, .slice A L cc, .int .i64 p] := by rw [hw1]; exact heap_alloc_new w _
    have HI1 : Hid (WrI B b acc w1) := Lib.hid (by rw [hw1]; exact h.alloc _)
    have HK1 := Lib.hid (show Below B w w1 ∧ KeepW b w w1 from ⟨by rw [hw1]; exact (belowAlloc w _).mono h.le, KeepW.grownN gw1⟩)
    have HE1 := Lib.hid hE1
    have HNE : Hid (w.heap.size ≠ b) := Lib.hid (by omega)
    have HW1 := Lib.hid hw1
    have HS := Lib.hid (lexSpell_any 3 n 0 ⟨#[]⟩ w1 HI1.out.marks (by decide) (by omega))
    unfold tokV at HS
    obtain ⟨X, hX⟩ : ∃ X, X = toS (spellN ⟨3, ⟨#[]⟩, n, 0⟩) := ⟨_, rfl⟩
    rw [← hX] at HS
    have HX : Hid (catL [X] = prL n) := Lib.hid (by
      show strL X ++ [] = _
      rw [List.append_nil, hX, strL_toS (spellN_bytes _)]
      unfold spellN
      rw [if_neg (show ¬ (3 : Int) = 1 by decide), if_neg (show ¬ (3 : Int) = 2 by decide), if_pos (show (3 : Int) = 3 from rfl), if_pos hn])
    have HLE := Lib.hid hlen
    clear h hb hlen hlf hw1 gw1 hbl hX hn
    have c2 := hE1.cell 2
    clear hE1
    go_enter Tryz.func151, Tryz.ntmps151
    go_wp2_with fail
    rw [← HW1.out]
    (with_reducible refine HS.out.mono ?_)
    rintro e w2 ⟨rfl, hb2⟩
    have HI2 := Lib.hid (HI1.out.below hb2)
    have HB2 := Lib.hid hb2
    clear hb2
    have HP2 : Hid (Calls Tryz.prog 67 #[.pointer (some ⟨b, 0, none⟩), .slice (some ⟨w2.heap.size, 0, none⟩) 1 1] (w2.alloc (.cells #[.string X] 9)) (WTell B b acc (catL [X]) w2)) := Lib.hid (put_new [X] HI2.out (by simp) (by rw [HX.out]; exact HLE.out) 1)
    go_wp2_with fail
    (with_reducible refine HP2.out.mono ?_)
    rintro e w3 ht3
    have HT3 := Lib.hid ((ht3.from (HB2.out.mono HI1.out.le) (KeepW.below HB2.out)).from HK1.out.1 HK1.out.2)
    rw [HX.out] at HT3
    obtain ⟨rfl, _⟩ := ht3
    go_wp2
    go_end0
    exact HT3.out
  · -- a text
    have hb : bareF (f + 1) (.mk 3 s n [] p) = quoteL s := rfl
    rw [hb] at hlen ⊢
    have hbl := wbl_lt h.bld
    obtain ⟨w1, hw1⟩ : ∃ W, W = w.alloc (.cells #[.int .i64 3, .string s, .int .i64 n, .slice A L cc, .int .i64 p] 42) := ⟨_, rfl⟩
    have gw1 : w.grownBy w1 none := by rw [hw1]; exact World.grownBy_alloc _ _ none
    have hE1 : Blk w1 w.heap.size 42 [.int .i64 3, .string s, .int .i64 n, .slice A L cc, .int .i64 p] := by rw [hw1]; exact heap_alloc_new w _
    have HI1 : Hid (WrI B b acc w1) := Lib.hid (by rw [hw1]; exact h.alloc _)
    have HK1 := Lib.hid (show Below B w w1 ∧ KeepW b w w1 from ⟨by rw [hw1]; exact (belowAlloc w _).mono h.le, KeepW.grownN gw1⟩)
    have HE1 := Lib.hid hE1
    have HNE : Hid (w.heap.size ≠ b) := Lib.hid (by omega)
    have HW1 := Lib.hid hw1
    have HP := Lib.hid (wQuoted_any s HI1.out hs hlen)
    obtain ⟨X, hX⟩ : ∃ X, X = quoteL s := ⟨_, rfl⟩
    rw [← hX] at HP ⊢
    clear h hb hlen hlf hw1 gw1 hE1 hbl hX
    go_enter Tryz.func151, Tryz.ntmps151
    go_wp2_with fail
    rw [← HW1.out]
    (with_reducible refine HP.out.mono ?_)
    rintro e w2 ht2
    have HT2 := Lib.hid (ht2.from HK1.out.1 HK1.out.2)
    obtain ⟨rfl, _⟩ := ht2
    go_wp2
    go_end0
    exact HT2.out
  · -- a variable
    have hb : bareF (f + 1) (.mk 4 s n [] p) = strL s := rfl
    rw [hb] at hlen ⊢
    have hbl := wbl_lt h.bld
    obtain ⟨w1, hw1⟩ : ∃ W, W = w.alloc (.cells #[.int .i64 4, .string s, .int .i64 n, .slice A L cc, .int .i64 p] 42) := ⟨_, rfl⟩
    have gw1 : w.grownBy w1 none := by rw [hw1]; exact World.grownBy_alloc _ _ none
    have hE1 : Blk w1 w.heap.size 42 [.int .i64 4, .string s, .int .i64 n, .slice A L cc, .int .i64 p] := by rw [hw1]; exact heap_alloc_new w _
    have HI1 : Hid (WrI B b acc w1) := Lib.hid (by rw [hw1]; exact h.alloc _)
    have HK1 := Lib.hid (show Below B w w1 ∧ KeepW b w w1 from ⟨by rw [hw1]; exact (belowAlloc w _).mono h.le, KeepW.grownN gw1⟩)
    have HE1 := Lib.hid hE1
    have HNE : Hid (w.heap.size ≠ b) := Lib.hid (by omega)
    have HW1 := Lib.hid hw1
    have HX : Hid (catL [s] = strL s) := Lib.hid (List.append_nil _)
    have HP1 : Hid (Calls Tryz.prog 67 #[.pointer (some ⟨b, 0, none⟩), .slice (some ⟨w1.heap.size, 0, none⟩) 1 1] (w1.alloc (.cells #[.string s] 9)) (WTell B b acc (catL [s]) w1)) := Lib.hid (put_new [s] HI1.out (by simp) (by rw [HX.out]; exact hlen) 1)
    rw [show w1.heap.size = w.heap.size + 1 from by rw [hw1]; simp] at HP1
    clear h hb hlen hlf hw1 gw1 hE1 hbl
    go_enter Tryz.func151, Tryz.ntmps151
    go_wp2_with fail
    rw [← HW1.out]
    (with_reducible refine HP1.out.mono ?_)
    rintro e w2 ht2
    have HT2 := Lib.hid (ht2.from HK1.out.1 HK1.out.2)
    rw [HX.out] at HT2
    obtain ⟨rfl, _⟩ := ht2
    go_wp2
    go_end0
    exact HT2.out
  · -- a claim
    have hb : bareF (f + 1) (.mk 5 s n [] p) = [99, 108, 97, 105, 109, 40] ++ quoteL s ++ [41] := rfl
    rw [hb] at hlen ⊢
    simp only [List.length_append, List.length_cons, List.length_nil] at hlen
    have hbl := wbl_lt h.bld
    obtain ⟨w1, hw1⟩ : ∃ W, W = w.alloc (.cells #[.int .i64 5, .string s, .int .i64 n, .slice A L cc, .int .i64 p] 42) := ⟨_, rfl⟩
    have gw1 : w.grownBy w1 none := by rw [hw1]; exact World.grownBy_alloc _ _ none
    have hE1 : Blk w1 w.heap.size 42 [.int .i64 5, .string s, .int .i64 n, .slice A L cc, .int .i64 p] := by rw [hw1]; exact heap_alloc_new w _
    have HI1 : Hid (WrI B b acc w1) := Lib.hid (by rw [hw1]; exact h.alloc _)
    have HK1 := Lib.hid (show Below B w w1 ∧ KeepW b w w1 from ⟨by rw [hw1]; exact (belowAlloc w _).mono h.le, KeepW.grownN gw1⟩)
    have HE1 := Lib.hid hE1
    have HNE : Hid (w.heap.size ≠ b) := Lib.hid (by omega)
    have HW1 := Lib.hid hw1
    have HP1 : Hid (Calls Tryz.prog 67 #[.pointer (some ⟨b, 0, none⟩), .slice (some ⟨w1.heap.size, 0, none⟩) 2 2] (w1.alloc (.cells #[.string ⟨#[99, 108, 97, 105, 109]⟩, .string ⟨#[40]⟩] 9)) (WTell B b acc [99, 108, 97, 105, 109, 40] w1)) := Lib.hid (put_new [⟨#[99, 108, 97, 105, 109]⟩, ⟨#[40]⟩] HI1.out (by simp) (by show _ + 6 ≤ _; omega) 2)
    rw [show w1.heap.size = w.heap.size + 1 from by rw [hw1]; simp] at HP1
    have HLE := Lib.hid hlen
    have hc1 := hE1.cell 1
    clear h hb hlen hlf hw1 gw1 hbl hE1
    go_enter Tryz.func151, Tryz.ntmps151
    go_wp2_with fail
    rw [← HW1.out]
    (with_reducible refine HP1.out.mono ?_)
    rintro e w2 ht2
    have HT2 := Lib.hid ht2
    obtain ⟨rfl, _⟩ := ht2
    have HI2 := Lib.hid (HI1.out.tell HT2.out)
    have hE2 := HT2.out.2.2.2.2 _ _ _ HNE.out (by decide) HE1.out
    have d1 := hE2.cell 1
    have HQ := Lib.hid (wQuoted_any s HI2.out hs (by have := HLE.out; simp only [List.length_append, List.length_cons, List.length_nil]; omega))
    clear hE2 hc1
    go_wp2_with fail
    (with_reducible refine HQ.out.mono ?_)
    rintro e w3 ht3
    have HT3 := Lib.hid ht3
    obtain ⟨rfl, _⟩ := ht3
    have HI3 := Lib.hid (HI2.out.tell HT3.out)
    have HP3 : Hid (Calls Tryz.prog 67 #[.pointer (some ⟨b, 0, none⟩), .slice (some ⟨w3.heap.size, 0, none⟩) 1 1] (w3.alloc (.cells #[.string ⟨#[41]⟩] 9)) (WTell B b (acc ++ [99, 108, 97, 105, 109, 40] ++ quoteL s) [41] w3)) := Lib.hid (put_new [⟨#[41]⟩] HI3.out (by simp) (by have := HLE.out; simp only [List.length_append, List.length_cons, List.length_nil]; show _ + 1 ≤ _; omega) 1)
    go_wp2_with fail
    (with_reducible refine HP3.out.mono ?_)
    rintro e w4 ht4
    have HT4 := Lib.hid (((HT2.out.seq HT3.out).seq (by rw [← List.append_assoc]; exact ht4)).from HK1.out.1 HK1.out.2)
    obtain ⟨rfl, _⟩ := ht4
    go_wp2
    go_end0
    exact HT4.out
set_option maxRecDepth 100000 in
set_option maxHeartbeats 4000000 in
theorem operand_comp {B b f : Nat} {op n p : Int} {s : ByteArray} {l : List Ex} (h6 : 6 ≤ op)
    (he : ∀ (w : World) (acc : List Int) (v : Value), WrI B b acc w → RepE w (fun x => x < B) (.mk op s n l p) v → acc.length + (bareF f (.mk op s n l p)).length ≤ 140737488355328 →
      Calls Tryz.prog 122 #[.pointer (some ⟨b, 0, none⟩), v, .int .i64 0] w (WTell B b acc (bareF f (.mk op s n l p)) w)) : OAskW B b f (.mk op s n l p) := by
  intro w acc v h hv hlen
  have htx : textF f (.mk op s n l p) 5 = [40] ++ bareF f (.mk op s n l p) ++ [41] := by
    show askedL op 5 (bareF f (.mk op s n l p)) = _
    unfold askedL
    rw [if_pos (by unfold bindE; rw [if_neg (by omega)]; split <;> (try split) <;> (try split) <;> decide)]
    rfl
  rw [htx] at hlen ⊢
  obtain ⟨X, hX⟩ : ∃ X, X = bareF f (.mk op s n l p) := ⟨_, rfl⟩
  rw [← hX] at he hlen ⊢
  simp only [List.length_append, List.length_cons, List.length_nil] at hlen
  have hv0 := hv
  rw [RepE] at hv
  obtain ⟨A, cc, rfl, _, _, _⟩ := hv
  obtain ⟨L, hL⟩ : ∃ L, L = l.length := ⟨_, rfl⟩
  rw [← hL] at hv0 ⊢
  have hbl := wbl_lt h.bld
  obtain ⟨w1, hw1⟩ : ∃ W, W = w.alloc (.cells #[.int .i64 op, .string s, .int .i64 n, .slice A L cc, .int .i64 p] 42) := ⟨_, rfl⟩
  have gw1 : w.grownBy w1 none := by rw [hw1]; exact World.grownBy_alloc _ _ none
  have hE1 : Blk w1 w.heap.size 42 [.int .i64 op, .string s, .int .i64 n, .slice A L cc, .int .i64 p] := by rw [hw1]; exact heap_alloc_new w _
  have HI1 : Hid (WrI B b acc w1) := Lib.hid (by rw [hw1]; exact h.alloc _)
  have HK1 := Lib.hid (show Below B w w1 ∧ KeepW b w w1 from ⟨by rw [hw1]; exact (belowAlloc w _).mono h.le, KeepW.grownN gw1⟩)
  have HE1 := Lib.hid hE1
  have HNE : Hid (w.heap.size ≠ b) := Lib.hid (by omega)
  have HW1 := Lib.hid hw1
  have HR1 := Lib.hid (RepE.keeps (S := fun k => k < B) (T := fun k => k < B) (Keeps.grown gw1 (fun b _ e => by cases e)) (fun _ h _ => h) _ _ hv0)
  have HE := Lib.hid he
  have HLE := Lib.hid hlen
  have e1 : (op == 1) = false := by rw [beq_eq_false_iff_ne]; omega
  have e2 : (op == 2) = false := by rw [beq_eq_false_iff_ne]; omega
  have e3 : (op == 3) = false := by rw [beq_eq_false_iff_ne]; omega
  have e4 : (op == 4) = false := by rw [beq_eq_false_iff_ne]; omega
  have e5 : (op == 5) = false := by rw [beq_eq_false_iff_ne]; omega
  have HP1 : Hid (Calls Tryz.prog 67 #[.pointer (some ⟨b, 0, none⟩), .slice (some ⟨w1.heap.size, 0, none⟩) 1 1] (w1.alloc (.cells #[.string ⟨#[40]⟩] 9)) (WTell B b acc [40] w1)) := Lib.hid (put_new [⟨#[40]⟩] HI1.out (by simp) (by show _ + 1 ≤ _; omega) 1)
  rw [show w1.heap.size = w.heap.size + 1 from by rw [hw1]; simp] at HP1
  clear h htx hlen hw1 gw1 hbl hE1 hv0 he hX hL h6
  go_enter Tryz.func151, Tryz.ntmps151
  go_wp2_with fail
  rw [← HW1.out]
  (with_reducible refine HP1.out.mono ?_)
  rintro e w2 ht2
  have HT2 := Lib.hid ht2
  obtain ⟨rfl, _⟩ := ht2
  have HI2 := Lib.hid (HI1.out.tell HT2.out)
  have hE2 := HT2.out.2.2.2.2 _ _ _ HNE.out (by decide) HE1.out
  obtain ⟨d0, d1, d2, d3, d4⟩ := cells5 hE2
  have HX := Lib.hid (HE.out w2 _ _ HI2.out (RepE.wtell HT2.out HR1.out) (by have := HLE.out; simp only [List.length_append, List.length_cons, List.length_nil]; omega))
  clear hE2
  go_wp2_with fail
  (with_reducible refine HX.out.mono ?_)
  rintro e w3 ht3
  have HT3 := Lib.hid ht3
  obtain ⟨rfl, _⟩ := ht3
  have HI3 := Lib.hid (HI2.out.tell HT3.out)
  have HP3 : Hid (Calls Tryz.prog 67 #[.pointer (some ⟨b, 0, none⟩), .slice (some ⟨w3.heap.size, 0, none⟩) 1 1] (w3.alloc (.cells #[.string ⟨#[41]⟩] 9)) (WTell B b (acc ++ [40] ++ X) [41] w3)) := Lib.hid (put_new [⟨#[41]⟩] HI3.out (by simp) (by have := HLE.out; simp only [List.length_append, List.length_cons, List.length_nil]; show _ + 1 ≤ _; omega) 1)
  go_wp2_with fail
  (with_reducible refine HP3.out.mono ?_)
  rintro e w4 ht4
  have HT4 := Lib.hid (((HT2.out.seq HT3.out).seq (by rw [← List.append_assoc]; exact ht4)).from HK1.out.1 HK1.out.2)
  obtain ⟨rfl, _⟩ := ht4
  go_wp2
  go_end0
  exact HT4.out
end Go.Proofs.YtcjfealalokjaaaGreatDoor
namespace Go.Proofs.YtcjfealalokjaaaGreatDoor
open Go Go.RowKit
theorem joinC_snoc : ∀ (l : List (List Int)) (x : List Int), l ≠ [] → joinC (l ++ [x]) = joinC l ++ ([44, 32] ++ x)
  | [], _, h => absurd rfl h
  | [y], x, _ => by show y ++ 44 :: 32 :: x = _; rfl
  | y :: z :: r, x, _ => by
    show y ++ 44 :: 32 :: joinC (z :: r ++ [x]) = (y ++ 44 :: 32 :: joinC (z :: r)) ++ _
    rw [joinC_snoc (z :: r) x (by simp)]
    simp
theorem eg_operandW : ∀ args w, (callFunc 151 args).run Tryz.prog w = .ok (.enter 151 args) w := enters_of Tryz.func151 (by kernel_rfl) rfl
theorem joinC_le : ∀ (l : List (List Int)) (k : Nat), (joinC (l.take k)).length ≤ (joinC l).length
  | [], k => by simp
  | [x], 0 => by simp [joinC]
  | [x], k + 1 => by simp [joinC]
  | x :: y :: r, 0 => by simp [joinC]
  | x :: y :: r, 1 => by simp [joinC]
  | x :: y :: r, k + 2 => by
    have := joinC_le (y :: r) (k + 1)
    show (x ++ 44 :: 32 :: joinC (y :: r.take k)).length ≤ (x ++ 44 :: 32 :: joinC (y :: r)).length
    simp only [List.length_append, List.length_cons]
    rw [List.take_succ_cons] at this
    omega
set_option maxRecDepth 100000 in
set_option maxHeartbeats 4000000 in
theorem listingE_of {B b f : Nat} {acc : List Int} {l : List Ex} (hl : l.length ≤ 1000000) (ho : ∀ x ∈ l, OAskW B b f x) {w : World} (h : WrI B b acc w) (g o c : Nat) (hg : g < B) (hr : RepEs w (fun x => x < B) g o l) (hlen : acc.length + (joinC (l.map fun e => textF f e 5)).length ≤ 140737488355328) :
    Calls Tryz.prog 174 #[.pointer (some ⟨b, 0, none⟩), .slice (some ⟨g, o, none⟩) l.length c, .func (.func 151) #[.pointer (some ⟨b, 0, none⟩)] #[]] w (WTell B b acc (joinC (l.map fun e => textF f e 5)) w) := by
  have HO := Lib.hid ho
  have HH := Lib.hid h
  have HLE := Lib.hid hlen
  have HRE := Lib.hid hr
  have eg := eg_operandW
  obtain ⟨xs, hxs⟩ : ∃ xs, xs = l.map fun e => textF f e 5 := ⟨_, rfl⟩
  have HXS := Lib.hid hxs
  rw [← hxs] at HLE ⊢
  obtain ⟨n, hn⟩ : ∃ n, n = l.length := ⟨_, rfl⟩
  have HN := Lib.hid hn
  rw [← hn] at hl ⊢
  clear h ho hlen hr hxs hn
  go_enter Tryz.func174, Tryz.ntmps174
  go_wp2_with fail
  go_loopw [10] (fun v wr => ∃ i : Nat, i ≤ n ∧ v = .int .i64 (i : Int) ∧ WrI B b (acc ++ joinC (xs.take i)) wr ∧ Below B w wr ∧ KeepW b w wr) (fun v _ => n - (intOf v).toNat)
  case atStart => exact ⟨0, Nat.zero_le _, rfl, by rw [List.take_zero]; simpa [joinC] using HH.out, Below.refl _ _, KeepW.refl _ _⟩
  case round =>
    obtain ⟨i, hi, rfl, hI, hb, hk⟩ := hrel
    have HI := Lib.hid hI
    have HK := Lib.hid (And.intro hb hk)
    by_cases hlt : i < n
    · have hil : i < l.length := by rw [← HN.out]; exact hlt
      have hxl : xs.length = l.length := by rw [HXS.out, List.length_map]
      obtain ⟨v, hrx, a0, a1, a2, a3, a4, rfl, k0, k1, k2, k3, k4⟩ := HRE.out.at i hil
      obtain ⟨x0, x1, x2, X, xn, xc, x4, e⟩ := hrx.form
      simp only [Value.agg.injEq, Array.mk.injEq, List.cons.injEq, and_true] at e
      obtain ⟨rfl, rfl, rfl, rfl, rfl⟩ := e
      have q0 := (hb.cell (p := ⟨g, o + i * 5, none⟩) hg).trans k0
      have q1 := (hb.cell (p := ⟨g, o + i * 5 + 1, none⟩) hg).trans k1
      have q2 := (hb.cell (p := ⟨g, o + i * 5 + 2, none⟩) hg).trans k2
      have q3 := (hb.cell (p := ⟨g, o + i * 5 + 3, none⟩) hg).trans k3
      have q4 := (hb.cell (p := ⟨g, o + i * 5 + 4, none⟩) hg).trans k4
      have HRX := Lib.hid (RepE.keeps (S := fun k => k < B) (T := fun k => k < B) (Keeps.below hb (fun _ h _ => h)) (fun _ h _ => h) _ _ hrx)
      have HOX := Lib.hid (HO.out l[i] (List.getElem_mem hil))
      have HTX : Hid (xs[i]? = some (textF f l[i] 5)) := Lib.hid (by rw [HXS.out, List.getElem?_map, List.getElem?_eq_getElem hil]; rfl)
      have htk : xs.take (i + 1) = xs.take i ++ [textF f l[i] 5] := by
        have h2 : i < xs.length := by rw [hxl]; exact hil
        have h3 := HTX.out
        rw [List.getElem?_eq_getElem h2] at h3
        injection h3 with h3
        rw [List.take_succ_eq_append_getElem h2, h3]
      have HBD : Hid (acc.length + (joinC (xs.take (i + 1))).length ≤ 140737488355328) := Lib.hid (by have := HLE.out; have := joinC_le xs (i + 1); omega)
      obtain ⟨T, hT⟩ : ∃ T, T = textF f l[i] 5 := ⟨_, rfl⟩
      have HT := Lib.hid hT
      rw [← hT] at htk
      have hi1 : (i : Int) < (n : Int) := by omega
      have hi2 : (0 : Int) ≤ (i : Int) := by omega
      have hgl : g < wr.heap.size := Nat.lt_of_lt_of_le hg (Nat.le_trans HH.out.le hb.size)
      obtain ⟨w1, hw1⟩ : ∃ W, W = wr.alloc (.cells #[.int .i64 x0, .string x1, .int .i64 x2, .slice X xn xc, .int .i64 x4] 42) := ⟨_, rfl⟩
      have gw1 : wr.grownBy w1 none := by rw [hw1]; exact World.grownBy_alloc _ _ none
      have HE1 : Hid (Blk w1 wr.heap.size 42 [.int .i64 x0, .string x1, .int .i64 x2, .slice X xn xc, .int .i64 x4]) := Lib.hid (by rw [hw1]; exact heap_alloc_new wr _)
      have HI1 : Hid (WrI B b (acc ++ joinC (xs.take i)) w1) := Lib.hid (by rw [hw1]; exact hI.alloc _)
      have HK1 : Hid (Below B wr w1 ∧ KeepW b wr w1) := Lib.hid ⟨by rw [hw1]; exact (belowAlloc wr _).mono hI.le, KeepW.grownN gw1⟩
      have HR1 := Lib.hid (RepE.keeps (S := fun k => k < B) (T := fun k => k < B) (Keeps.grown gw1 (fun b _ e => by cases e)) (fun _ h _ => h) _ _ HRX.out)
      have HNE : Hid (wr.heap.size ≠ b) := Lib.hid (by have := wbl_lt hI.bld; omega)
      have HW1 := Lib.hid hw1
      by_cases h0 : i = 0
      · subst h0
        have HNX : Hid (acc ++ joinC (xs.take (0 + 1)) = (acc ++ joinC (xs.take 0)) ++ T) := Lib.hid (by rw [htk, List.take_zero]; simp [joinC])
        have HC := Lib.hid (HOX.out w1 _ _ HI1.out HR1.out (by have := HBD.out; rw [htk, List.take_zero] at this; rw [← HT.out, List.take_zero]; simpa [joinC] using this))
        rw [← HT.out] at HC
        clear hI hb hk hrx k0 k1 k2 k3 k4 hT htk hw1 gw1 hxl
        simp only [Nat.zero_mul, Nat.add_zero] at q0 q1 q2 q3 q4
        go_wp2_with fail
        rw [← HW1.out]
        (with_reducible refine HC.out.mono ?_)
        rintro e w3 ht3
        have HT3 := Lib.hid (ht3.from HK1.out.1 HK1.out.2)
        obtain ⟨rfl, _⟩ := ht3
        clear q0 q1 q2 q3 q4
        go_wp2
        go_roundw
        case rel => exact ⟨0 + 1, by omega, by go_num, by rw [HNX.out]; exact HI.out.tell HT3.out, HK.out.1.trans HT3.out.2.2.1, HK.out.2.trans HT3.out.2.2.2⟩
        case measure => simp [intOf]; omega
      · have hne : xs.take i ≠ [] := by
          intro e
          have h9 := congrArg List.length e
          rw [List.length_take, hxl, List.length_nil] at h9
          omega
        have hi3 : (0 : Int) < (i : Int) := by omega
        have HNX : Hid (acc ++ joinC (xs.take (i + 1)) = (acc ++ joinC (xs.take i)) ++ ([44, 32] ++ T)) := Lib.hid (by rw [htk, joinC_snoc _ _ hne, List.append_assoc])
        have HBE : Hid ((acc ++ joinC (xs.take i)).length + (2 + T.length) ≤ 140737488355328) := Lib.hid (by
          have := HBD.out
          rw [htk, joinC_snoc _ _ hne] at this
          simp only [List.length_append, List.length_cons, List.length_nil] at this ⊢
          omega)
        have HPP : Hid (Calls Tryz.prog 67 #[.pointer (some ⟨b, 0, none⟩), .slice (some ⟨w1.heap.size, 0, none⟩) 2 2] (w1.alloc (.cells #[.string ⟨#[44]⟩, .string ⟨#[32]⟩] 9)) (WTell B b (acc ++ joinC (xs.take i)) [44, 32] w1)) := Lib.hid (put_new [⟨#[44]⟩, ⟨#[32]⟩] HI1.out (by simp) (by have := HBE.out; show _ + 2 ≤ _; omega) 2)
        clear hI hb hk hrx k0 k1 k2 k3 k4 hT htk gw1 hxl hne
        rw [show w1.heap.size = wr.heap.size + 1 from by rw [hw1]; simp] at HPP
        clear hw1
        go_wp2_with fail
        rw [← HW1.out]
        (with_reducible refine HPP.out.mono ?_)
        rintro e w2 ht2
        have HT2 := Lib.hid ht2
        obtain ⟨rfl, _⟩ := ht2
        have HI2 := Lib.hid (HI1.out.tell HT2.out)
        have hE2 := HT2.out.2.2.2.2 _ _ _ HNE.out (by decide) HE1.out
        obtain ⟨d0, d1, d2, d3, d4⟩ := cells5 hE2
        have HC := Lib.hid (HOX.out w2 _ _ HI2.out (RepE.wtell HT2.out HR1.out) (by have := HBE.out; rw [← HT.out]; simp only [List.length_append, List.length_cons, List.length_nil] at this ⊢; omega))
        rw [← HT.out] at HC
        clear hE2
        go_wp2_with fail
        (with_reducible refine HC.out.mono ?_)
        rintro e w3 ht3
        have HT3 := Lib.hid ((HT2.out.seq ht3).from HK1.out.1 HK1.out.2)
        obtain ⟨rfl, _⟩ := ht3
        clear d0 d1 d2 d3 d4 q0 q1 q2 q3 q4
        go_wp2
        go_roundw
        case rel => exact ⟨i + 1, by omega, by go_num, by rw [HNX.out]; exact HI.out.tell HT3.out, HK.out.1.trans HT3.out.2.2.1, HK.out.2.trans HT3.out.2.2.2⟩
        case measure => simp [intOf]; omega
    · obtain rfl : i = n := by omega
      have hi1 : ¬ (i : Int) < (i : Int) := by omega
      have hall : xs.take i = xs := List.take_of_length_le (by rw [HXS.out, List.length_map, ← HN.out]; exact Nat.le_refl _)
      have HA := Lib.hid hall
      clear hI hb hk hall
      go_wp2
      go_end0
      exact ⟨rfl, by rw [← HA.out]; exact HI.out.bld, HK.out.1, HK.out.2⟩
end Go.Proofs.YtcjfealalokjaaaGreatDoor
namespace Go.Proofs.YtcjfealalokjaaaGreatDoor
open Go Go.RowKit
set_option maxRecDepth 100000 in
set_option maxHeartbeats 4000000 in
theorem in_of {B b f : Nat} {acc : List Int} {n p : Int} {s : ByteArray} {x y : Ex} {l : List Ex} (hx : OAskW B b f x) (hl : (y :: l).length ≤ 1000000) (hys : ∀ z ∈ y :: l, OAskW B b f z) {w : World} {v : Value} (h : WrI B b acc w) (hv : RepE w (fun k => k < B) (.mk 13 s n (x :: y :: l) p) v)
    (hlen : acc.length + (textF f x 5 ++ [32, 105, 110, 32, 91] ++ joinC ((y :: l).map fun e => textF f e 5) ++ [93]).length ≤ 140737488355328) :
    Calls Tryz.prog 149 #[.pointer (some ⟨b, 0, none⟩), v] w (WTell B b acc (textF f x 5 ++ [32, 105, 110, 32, 91] ++ joinC ((y :: l).map fun e => textF f e 5) ++ [93]) w) := by
  have hv0 := hv
  rw [RepE] at hv
  obtain ⟨A, cc, rfl, _, hcap, hcs⟩ := hv
  obtain ⟨g, o, rfl, hgB, hgl, hrep⟩ := hcs (by simp)
  rw [RepEs] at hrep
  obtain ⟨⟨vx, hrx, hfx⟩, hry⟩ := hrep
  obtain ⟨x0, x1, x2, X, xn, xc, x4, rfl⟩ := hrx.form
  obtain ⟨a0, a1, a2, a3, a4, e, k0, k1, k2, k3, k4⟩ := hfx
  simp only [Value.agg.injEq, Array.mk.injEq, List.cons.injEq, and_true] at e
  obtain ⟨rfl, rfl, rfl, rfl, rfl⟩ := e
  obtain ⟨TY, hTY⟩ : ∃ T, T = joinC ((y :: l).map fun e => textF f e 5) := ⟨_, rfl⟩
  rw [← hTY] at hlen ⊢
  obtain ⟨m, hm⟩ : ∃ m, m = (y :: l).length := ⟨_, rfl⟩
  obtain ⟨L, hL⟩ : ∃ L, L = (x :: y :: l).length := ⟨_, rfl⟩
  have hLm : L = m + 1 := by rw [hL, hm]; rfl
  rw [← hL] at hv0 hcap ⊢
  simp only [List.length_append, List.length_cons, List.length_nil] at hlen
  have hbl := wbl_lt h.bld
  obtain ⟨w1, hw1⟩ : ∃ W, W = w.alloc (.cells #[.int .i64 13, .string s, .int .i64 n, .slice (some ⟨g, o, none⟩) L cc, .int .i64 p] 42) := ⟨_, rfl⟩
  have gw1 : w.grownBy w1 none := by rw [hw1]; exact World.grownBy_alloc _ _ none
  have hE1 : Blk w1 w.heap.size 42 [.int .i64 13, .string s, .int .i64 n, .slice (some ⟨g, o, none⟩) L cc, .int .i64 p] := by rw [hw1]; exact heap_alloc_new w _
  have HI1 : Hid (WrI B b acc w1) := Lib.hid (by rw [hw1]; exact h.alloc _)
  have HK1 := Lib.hid (show Below B w w1 ∧ KeepW b w w1 from ⟨by rw [hw1]; exact (belowAlloc w _).mono h.le, KeepW.grownN gw1⟩)
  have HE1 := Lib.hid hE1
  have HNE : Hid (w.heap.size ≠ b) := Lib.hid (by omega)
  have HW1 := Lib.hid hw1
  have HX := Lib.hid (hx w1 acc _ HI1.out (RepE.keeps (S := fun k => k < B) (T := fun k => k < B) (Keeps.grown gw1 (fun b _ e => by cases e)) (fun _ h _ => h) _ _ hrx) (by omega))
  have HRY := Lib.hid (repEs_keeps (S := fun k => k < B) (T := fun k => k < B) (Keeps.grown gw1 (fun b _ e => by cases e)) (fun _ h _ => h) hgB hgl _ _ hry)
  have HLS := Lib.hid (fun (W : World) (acc : List Int) (h : WrI B b acc W) (c : Nat) (hr : RepEs W (fun k => k < B) g (o + 5) (y :: l)) (hle : acc.length + (joinC ((y :: l).map fun e => textF f e 5)).length ≤ 140737488355328) => listingE_of hl hys h g (o + 5) c hgB hr hle)
  rw [← hTY, ← hm] at HLS
  have HGL : Hid (g < w1.heap.size) := Lib.hid (Nat.lt_of_lt_of_le hgl gw1.size)
  have HLE := Lib.hid hlen
  have hL0 : (0 : Int) < (L : Int) := by omega
  have hL1 : (1 : Int) ≤ (L : Int) := by omega
  have hL2 : (L : Int) ≤ (cc : Int) := by omega
  have hL3 : L ≤ cc := hcap.1
  have hL4 : 1 ≤ L := by omega
  have hm1 : 1 ≤ m := by rw [hm]; simp
  have hL5 : ¬ cc ≤ 1 := by omega
  have hL6 : cc - 1 ≠ 0 := by omega
  have hL7 : ¬ cc = 1 := by omega
  have hmf : ∀ (fn : Fn) (first cap : Array Value) (w : World), (Instr.makeFunc fn first cap).run Tryz.prog w = .ok (.func fn first cap) w := fun _ _ _ _ => rfl
  obtain ⟨TX, hTX⟩ : ∃ T, T = textF f x 5 := ⟨_, rfl⟩
  rw [← hTX] at HX HLE ⊢
  have HLM := Lib.hid hLm
  clear h hlen hw1 gw1 hbl hE1 hv0 hx hys hL hm hTY hTX hrx hry hl hcap hLm
  go_enter Tryz.func149, Tryz.ntmps149
  go_wp2_with fail
  rw [← HW1.out]
  (with_reducible refine HX.out.mono ?_)
  rintro e w2 ht2
  have HT2 := Lib.hid ht2
  obtain ⟨rfl, _⟩ := ht2
  have HI2 := Lib.hid (HI1.out.tell HT2.out)
  have HP2 : Hid (Calls Tryz.prog 67 #[.pointer (some ⟨b, 0, none⟩), .slice (some ⟨w2.heap.size, 0, none⟩) 4 4] (w2.alloc (.cells #[.string ⟨#[32]⟩, .string ⟨#[105, 110]⟩, .string ⟨#[32]⟩, .string ⟨#[91]⟩] 9)) (WTell B b (acc ++ TX) [32, 105, 110, 32, 91] w2)) := Lib.hid (put_new [⟨#[32]⟩, ⟨#[105, 110]⟩, ⟨#[32]⟩, ⟨#[91]⟩] HI2.out (by simp) (by have := HLE.out; rw [List.length_append]; show _ + 5 ≤ _; omega) 4)
  go_wp2_with fail
  (with_reducible refine HP2.out.mono ?_)
  rintro e w4 ht4
  have HT4 := Lib.hid ht4
  obtain ⟨rfl, _⟩ := ht4
  have HI4 := Lib.hid (HI2.out.tell HT4.out)
  have hE4 := HT4.out.2.2.2.2 _ _ _ HNE.out (by decide) (HT2.out.2.2.2.2 _ _ _ HNE.out (by decide) HE1.out)
  have q3 := hE4.cell 3
  have hb4 := HT2.out.2.2.1.trans HT4.out.2.2.1
  have HLL := Lib.hid (HLS.out w4 _ HI4.out (cc - 1) (repEs_keeps (S := fun k => k < B) (T := fun k => k < B) (Keeps.below hb4 (fun _ h _ => h)) (fun _ h _ => h) hgB HGL.out _ _ HRY.out) (by have := HLE.out; simp only [List.length_append, List.length_cons, List.length_nil]; omega))
  clear hE4 hb4 k0 k1 k2 k3 k4
  go_wp2_with fail
  rw [show L - 1 = m from by have := HLM.out; omega]
  (with_reducible refine HLL.out.mono ?_)
  rintro e w5 ht5
  have HT5 := Lib.hid ht5
  obtain ⟨rfl, _⟩ := ht5
  have HI5 := Lib.hid (HI4.out.tell HT5.out)
  have HP5 : Hid (Calls Tryz.prog 67 #[.pointer (some ⟨b, 0, none⟩), .slice (some ⟨w5.heap.size, 0, none⟩) 1 1] (w5.alloc (.cells #[.string ⟨#[93]⟩] 9)) (WTell B b (acc ++ TX ++ [32, 105, 110, 32, 91] ++ TY) [93] w5)) := Lib.hid (put_new [⟨#[93]⟩] HI5.out (by simp) (by have := HLE.out; simp only [List.length_append, List.length_cons, List.length_nil]; show _ + 1 ≤ _; omega) 1)
  go_wp2_with fail
  (with_reducible refine HP5.out.mono ?_)
  rintro e w6 ht6
  have HT6 := Lib.hid ((((HT2.out.seq HT4.out).seq (by rw [← List.append_assoc]; exact HT5.out)).seq (by simpa [List.append_assoc] using ht6)).from HK1.out.1 HK1.out.2)
  obtain ⟨rfl, _⟩ := ht6
  go_wp2
  go_end0
  exact HT6.out
end Go.Proofs.YtcjfealalokjaaaGreatDoor
namespace Go.Proofs.YtcjfealalokjaaaGreatDoor
open Go Go.RowKit
set_option maxRecDepth 100000 in
set_option maxHeartbeats 2000000 in
theorem expr_opd0 {B b f : Nat} {op n p : Int} {s : ByteArray} {l : List Ex} (n8 : op ≠ 8) (n7 : op ≠ 7) (n6 : op ≠ 6) (n13 : op ≠ 13) (hs0 : signS op = E0) (ho : OAskW B b f (.mk op s n l p)) (w : World) (acc : List Int) (v : Value) (h : WrI B b acc w) (hv : RepE w (fun x => x < B) (.mk op s n l p) v) (hlen : acc.length + (textF f (.mk op s n l p) 5).length ≤ 140737488355328) :
    Calls Tryz.prog 122 #[.pointer (some ⟨b, 0, none⟩), v, .int .i64 0] w (WTell B b acc (textF f (.mk op s n l p) 5) w) := by
  have hv0 := hv
  rw [RepE] at hv
  obtain ⟨A, cc, rfl, _, _, _⟩ := hv
  obtain ⟨L, hL⟩ : ∃ L, L = l.length := ⟨_, rfl⟩
  rw [← hL] at hv0 ⊢
  have hbl := wbl_lt h.bld
  obtain ⟨w1, hw1⟩ : ∃ W, W = w.alloc (.cells #[.int .i64 op, .string s, .int .i64 n, .slice A L cc, .int .i64 p] 42) := ⟨_, rfl⟩
  have gw1 : w.grownBy w1 none := by rw [hw1]; exact World.grownBy_alloc _ _ none
  have hE1 : Blk w1 w.heap.size 42 [.int .i64 op, .string s, .int .i64 n, .slice A L cc, .int .i64 p] := by rw [hw1]; exact heap_alloc_new w _
  have HI1 : Hid (WrI B b acc w1) := Lib.hid (by rw [hw1]; exact h.alloc _)
  have HK1 := Lib.hid (show Below B w w1 ∧ KeepW b w w1 from ⟨by rw [hw1]; exact (belowAlloc w _).mono h.le, KeepW.grownN gw1⟩)
  have HE1 := Lib.hid hE1
  have HNE : Hid (w.heap.size ≠ b) := Lib.hid (by omega)
  have HW1 := Lib.hid hw1
  have HO := Lib.hid (ho w1 acc _ HI1.out (RepE.keeps (S := fun k => k < B) (T := fun k => k < B) (Keeps.grown gw1 (fun b _ e => by cases e)) (fun _ h _ => h) _ _ hv0) hlen)
  obtain ⟨X, hX⟩ : ∃ X, X = textF f (.mk op s n l p) 5 := ⟨_, rfl⟩
  rw [← hX] at HO ⊢
  have e8 : (op == 8) = false := by rw [beq_eq_false_iff_ne]; exact n8
  have e7 : (op == 7) = false := by rw [beq_eq_false_iff_ne]; exact n7
  have e6 : (op == 6) = false := by rw [beq_eq_false_iff_ne]; exact n6
  have e13 : (op == 13) = false := by rw [beq_eq_false_iff_ne]; exact n13
  have HSO := Lib.hid (fun W => wSaidOf_any op W)
  rw [hs0] at HSO
  obtain ⟨c0, c1, c2, c3, c4⟩ := cells5 hE1
  have hb1 := belowAlloc w (.cells #[.int .i64 op, .string s, .int .i64 n, .slice A L cc, .int .i64 p] 42)
  clear h hlen hw1 gw1 hbl hE1 hv0 ho hL hX hb1 n8 n7 n6 n13 hs0
  go_enter Tryz.func122, Tryz.ntmps122
  go_wp2_with fail
  rw [← HW1.out]
  (with_reducible refine (HSO.out _).mono ?_)
  rintro e w2 ⟨rfl, hw2⟩
  subst hw2
  go_wp2_with fail
  (with_reducible refine HO.out.mono ?_)
  rintro e w3 ht3
  have HT3 := Lib.hid (ht3.from HK1.out.1 HK1.out.2)
  obtain ⟨rfl, _⟩ := ht3
  go_wp2
  go_end0
  exact HT3.out
set_option maxRecDepth 100000 in
set_option maxHeartbeats 2000000 in
theorem expr_opd1 {B b f : Nat} {op n p : Int} {s : ByteArray} {l : List Ex} (n7 : op ≠ 7) (n6 : op ≠ 6) (n13 : op ≠ 13) (hs0 : signS op = E0) (ho : OAskW B b f (.mk op s n l p)) (w : World) (acc : List Int) (v : Value) (h : WrI B b acc w) (hv : RepE w (fun x => x < B) (.mk op s n l p) v) (hlen : acc.length + (textF f (.mk op s n l p) 5).length ≤ 140737488355328) :
    Calls Tryz.prog 122 #[.pointer (some ⟨b, 0, none⟩), v, .int .i64 1] w (WTell B b acc (textF f (.mk op s n l p) 5) w) := by
  have hv0 := hv
  rw [RepE] at hv
  obtain ⟨A, cc, rfl, _, _, _⟩ := hv
  obtain ⟨L, hL⟩ : ∃ L, L = l.length := ⟨_, rfl⟩
  rw [← hL] at hv0 ⊢
  have hbl := wbl_lt h.bld
  obtain ⟨w1, hw1⟩ : ∃ W, W = w.alloc (.cells #[.int .i64 op, .string s, .int .i64 n, .slice A L cc, .int .i64 p] 42) := ⟨_, rfl⟩
  have gw1 : w.grownBy w1 none := by rw [hw1]; exact World.grownBy_alloc _ _ none
  have hE1 : Blk w1 w.heap.size 42 [.int .i64 op, .string s, .int .i64 n, .slice A L cc, .int .i64 p] := by rw [hw1]; exact heap_alloc_new w _
  have HI1 : Hid (WrI B b acc w1) := Lib.hid (by rw [hw1]; exact h.alloc _)
  have HK1 := Lib.hid (show Below B w w1 ∧ KeepW b w w1 from ⟨by rw [hw1]; exact (belowAlloc w _).mono h.le, KeepW.grownN gw1⟩)
  have HE1 := Lib.hid hE1
  have HNE : Hid (w.heap.size ≠ b) := Lib.hid (by omega)
  have HW1 := Lib.hid hw1
  have HO := Lib.hid (ho w1 acc _ HI1.out (RepE.keeps (S := fun k => k < B) (T := fun k => k < B) (Keeps.grown gw1 (fun b _ e => by cases e)) (fun _ h _ => h) _ _ hv0) hlen)
  obtain ⟨X, hX⟩ : ∃ X, X = textF f (.mk op s n l p) 5 := ⟨_, rfl⟩
  rw [← hX] at HO ⊢
  have e7 : (op == 7) = false := by rw [beq_eq_false_iff_ne]; exact n7
  have e6 : (op == 6) = false := by rw [beq_eq_false_iff_ne]; exact n6
  have e13 : (op == 13) = false := by rw [beq_eq_false_iff_ne]; exact n13
  have HSO := Lib.hid (fun W => wSaidOf_any op W)
  rw [hs0] at HSO
  obtain ⟨c0, c1, c2, c3, c4⟩ := cells5 hE1
  have hb1 := belowAlloc w (.cells #[.int .i64 op, .string s, .int .i64 n, .slice A L cc, .int .i64 p] 42)
  clear h hlen hw1 gw1 hbl hE1 hv0 ho hL hX hb1 n7 n6 n13 hs0
  go_enter Tryz.func122, Tryz.ntmps122
  go_wp2_with fail
  rw [← HW1.out]
  (with_reducible refine (HSO.out _).mono ?_)
  rintro e w2 ⟨rfl, hw2⟩
  subst hw2
  go_wp2_with fail
  (with_reducible refine HO.out.mono ?_)
  rintro e w3 ht3
  have HT3 := Lib.hid (ht3.from HK1.out.1 HK1.out.2)
  obtain ⟨rfl, _⟩ := ht3
  go_wp2
  go_end0
  exact HT3.out
set_option maxRecDepth 100000 in
set_option maxHeartbeats 2000000 in
theorem expr_opd2 {B b f : Nat} {op n p : Int} {s : ByteArray} {l : List Ex} (n6 : op ≠ 6) (n13 : op ≠ 13) (hs0 : signS op = E0) (ho : OAskW B b f (.mk op s n l p)) (w : World) (acc : List Int) (v : Value) (h : WrI B b acc w) (hv : RepE w (fun x => x < B) (.mk op s n l p) v) (hlen : acc.length + (textF f (.mk op s n l p) 5).length ≤ 140737488355328) :
    Calls Tryz.prog 122 #[.pointer (some ⟨b, 0, none⟩), v, .int .i64 2] w (WTell B b acc (textF f (.mk op s n l p) 5) w) := by
  have hv0 := hv
  rw [RepE] at hv
  obtain ⟨A, cc, rfl, _, _, _⟩ := hv
  obtain ⟨L, hL⟩ : ∃ L, L = l.length := ⟨_, rfl⟩
  rw [← hL] at hv0 ⊢
  have hbl := wbl_lt h.bld
  obtain ⟨w1, hw1⟩ : ∃ W, W = w.alloc (.cells #[.int .i64 op, .string s, .int .i64 n, .slice A L cc, .int .i64 p] 42) := ⟨_, rfl⟩
  have gw1 : w.grownBy w1 none := by rw [hw1]; exact World.grownBy_alloc _ _ none
  have hE1 : Blk w1 w.heap.size 42 [.int .i64 op, .string s, .int .i64 n, .slice A L cc, .int .i64 p] := by rw [hw1]; exact heap_alloc_new w _
  have HI1 : Hid (WrI B b acc w1) := Lib.hid (by rw [hw1]; exact h.alloc _)
  have HK1 := Lib.hid (show Below B w w1 ∧ KeepW b w w1 from ⟨by rw [hw1]; exact (belowAlloc w _).mono h.le, KeepW.grownN gw1⟩)
  have HE1 := Lib.hid hE1
  have HNE : Hid (w.heap.size ≠ b) := Lib.hid (by omega)
  have HW1 := Lib.hid hw1
  have HO := Lib.hid (ho w1 acc _ HI1.out (RepE.keeps (S := fun k => k < B) (T := fun k => k < B) (Keeps.grown gw1 (fun b _ e => by cases e)) (fun _ h _ => h) _ _ hv0) hlen)
  obtain ⟨X, hX⟩ : ∃ X, X = textF f (.mk op s n l p) 5 := ⟨_, rfl⟩
  rw [← hX] at HO ⊢
  have e6 : (op == 6) = false := by rw [beq_eq_false_iff_ne]; exact n6
  have e13 : (op == 13) = false := by rw [beq_eq_false_iff_ne]; exact n13
  have HSO := Lib.hid (fun W => wSaidOf_any op W)
  rw [hs0] at HSO
  obtain ⟨c0, c1, c2, c3, c4⟩ := cells5 hE1
  have hb1 := belowAlloc w (.cells #[.int .i64 op, .string s, .int .i64 n, .slice A L cc, .int .i64 p] 42)
  clear h hlen hw1 gw1 hbl hE1 hv0 ho hL hX hb1 n6 n13 hs0
  go_enter Tryz.func122, Tryz.ntmps122
  go_wp2_with fail
  rw [← HW1.out]
  (with_reducible refine (HSO.out _).mono ?_)
  rintro e w2 ⟨rfl, hw2⟩
  subst hw2
  go_wp2_with fail
  (with_reducible refine HO.out.mono ?_)
  rintro e w3 ht3
  have HT3 := Lib.hid (ht3.from HK1.out.1 HK1.out.2)
  obtain ⟨rfl, _⟩ := ht3
  go_wp2
  go_end0
  exact HT3.out
set_option maxRecDepth 100000 in
set_option maxHeartbeats 2000000 in
theorem expr_opd3 {B b f : Nat} {op n p : Int} {s : ByteArray} {l : List Ex} (n13 : op ≠ 13) (hs0 : signS op = E0) (ho : OAskW B b f (.mk op s n l p)) (w : World) (acc : List Int) (v : Value) (h : WrI B b acc w) (hv : RepE w (fun x => x < B) (.mk op s n l p) v) (hlen : acc.length + (textF f (.mk op s n l p) 5).length ≤ 140737488355328) :
    Calls Tryz.prog 122 #[.pointer (some ⟨b, 0, none⟩), v, .int .i64 3] w (WTell B b acc (textF f (.mk op s n l p) 5) w) := by
  have hv0 := hv
  rw [RepE] at hv
  obtain ⟨A, cc, rfl, _, _, _⟩ := hv
  obtain ⟨L, hL⟩ : ∃ L, L = l.length := ⟨_, rfl⟩
  rw [← hL] at hv0 ⊢
  have hbl := wbl_lt h.bld
  obtain ⟨w1, hw1⟩ : ∃ W, W = w.alloc (.cells #[.int .i64 op, .string s, .int .i64 n, .slice A L cc, .int .i64 p] 42) := ⟨_, rfl⟩
  have gw1 : w.grownBy w1 none := by rw [hw1]; exact World.grownBy_alloc _ _ none
  have hE1 : Blk w1 w.heap.size 42 [.int .i64 op, .string s, .int .i64 n, .slice A L cc, .int .i64 p] := by rw [hw1]; exact heap_alloc_new w _
  have HI1 : Hid (WrI B b acc w1) := Lib.hid (by rw [hw1]; exact h.alloc _)
  have HK1 := Lib.hid (show Below B w w1 ∧ KeepW b w w1 from ⟨by rw [hw1]; exact (belowAlloc w _).mono h.le, KeepW.grownN gw1⟩)
  have HE1 := Lib.hid hE1
  have HNE : Hid (w.heap.size ≠ b) := Lib.hid (by omega)
  have HW1 := Lib.hid hw1
  have HO := Lib.hid (ho w1 acc _ HI1.out (RepE.keeps (S := fun k => k < B) (T := fun k => k < B) (Keeps.grown gw1 (fun b _ e => by cases e)) (fun _ h _ => h) _ _ hv0) hlen)
  obtain ⟨X, hX⟩ : ∃ X, X = textF f (.mk op s n l p) 5 := ⟨_, rfl⟩
  rw [← hX] at HO ⊢
  have e13 : (op == 13) = false := by rw [beq_eq_false_iff_ne]; exact n13
  have HSO := Lib.hid (fun W => wSaidOf_any op W)
  rw [hs0] at HSO
  obtain ⟨c0, c1, c2, c3, c4⟩ := cells5 hE1
  have hb1 := belowAlloc w (.cells #[.int .i64 op, .string s, .int .i64 n, .slice A L cc, .int .i64 p] 42)
  clear h hlen hw1 gw1 hbl hE1 hv0 ho hL hX hb1 n13 hs0
  go_enter Tryz.func122, Tryz.ntmps122
  go_wp2_with fail
  rw [← HW1.out]
  (with_reducible refine (HSO.out _).mono ?_)
  rintro e w2 ⟨rfl, hw2⟩
  subst hw2
  go_wp2_with fail
  (with_reducible refine HO.out.mono ?_)
  rintro e w3 ht3
  have HT3 := Lib.hid (ht3.from HK1.out.1 HK1.out.2)
  obtain ⟨rfl, _⟩ := ht3
  go_wp2
  go_end0
  exact HT3.out
set_option maxRecDepth 100000 in
set_option maxHeartbeats 2000000 in
theorem expr_opd4 {B b f : Nat} {op n p : Int} {s : ByteArray} {l : List Ex}  (ho : OAskW B b f (.mk op s n l p)) (w : World) (acc : List Int) (v : Value) (h : WrI B b acc w) (hv : RepE w (fun x => x < B) (.mk op s n l p) v) (hlen : acc.length + (textF f (.mk op s n l p) 5).length ≤ 140737488355328) :
    Calls Tryz.prog 122 #[.pointer (some ⟨b, 0, none⟩), v, .int .i64 4] w (WTell B b acc (textF f (.mk op s n l p) 5) w) := by
  have hv0 := hv
  rw [RepE] at hv
  obtain ⟨A, cc, rfl, _, _, _⟩ := hv
  obtain ⟨L, hL⟩ : ∃ L, L = l.length := ⟨_, rfl⟩
  rw [← hL] at hv0 ⊢
  have hbl := wbl_lt h.bld
  obtain ⟨w1, hw1⟩ : ∃ W, W = w.alloc (.cells #[.int .i64 op, .string s, .int .i64 n, .slice A L cc, .int .i64 p] 42) := ⟨_, rfl⟩
  have gw1 : w.grownBy w1 none := by rw [hw1]; exact World.grownBy_alloc _ _ none
  have hE1 : Blk w1 w.heap.size 42 [.int .i64 op, .string s, .int .i64 n, .slice A L cc, .int .i64 p] := by rw [hw1]; exact heap_alloc_new w _
  have HI1 : Hid (WrI B b acc w1) := Lib.hid (by rw [hw1]; exact h.alloc _)
  have HK1 := Lib.hid (show Below B w w1 ∧ KeepW b w w1 from ⟨by rw [hw1]; exact (belowAlloc w _).mono h.le, KeepW.grownN gw1⟩)
  have HE1 := Lib.hid hE1
  have HNE : Hid (w.heap.size ≠ b) := Lib.hid (by omega)
  have HW1 := Lib.hid hw1
  have HO := Lib.hid (ho w1 acc _ HI1.out (RepE.keeps (S := fun k => k < B) (T := fun k => k < B) (Keeps.grown gw1 (fun b _ e => by cases e)) (fun _ h _ => h) _ _ hv0) hlen)
  obtain ⟨X, hX⟩ : ∃ X, X = textF f (.mk op s n l p) 5 := ⟨_, rfl⟩
  rw [← hX] at HO ⊢
  obtain ⟨c0, c1, c2, c3, c4⟩ := cells5 hE1
  have hb1 := belowAlloc w (.cells #[.int .i64 op, .string s, .int .i64 n, .slice A L cc, .int .i64 p] 42)
  clear h hlen hw1 gw1 hbl hE1 hv0 ho hL hX hb1 
  go_enter Tryz.func122, Tryz.ntmps122
  go_wp2_with fail
  rw [← HW1.out]
  (with_reducible refine HO.out.mono ?_)
  rintro e w3 ht3
  have HT3 := Lib.hid (ht3.from HK1.out.1 HK1.out.2)
  obtain ⟨rfl, _⟩ := ht3
  go_wp2
  go_end0
  exact HT3.out
end Go.Proofs.YtcjfealalokjaaaGreatDoor
