/- PolRfT, PolRfT2, PolRfR: merged. -/
import Derived.Test.YtcjfealalokjaaaGreatDoorPa29
set_option linter.all false
namespace Go.Proofs.YtcjfealalokjaaaGreatDoor
open Go Go.RowKit
set_option maxRecDepth 100000 in
set_option maxHeartbeats 1000000 in
theorem refBind_any (op : Int) (W : World) : Calls Tryz.prog 75 #[.int .i64 op] W fun e w' => e = .returned (.int .i64 (bindE op : Int)) ∧ W = w' := by
  by_cases h5 : op ≤ 5
  · rw [show bindE op = 5 from by unfold bindE; rw [if_pos h5]]
    go_enter Tryz.func75, Tryz.ntmps75
    go_wp2
    go_ret
    exact ⟨rfl, rfl⟩
  by_cases h6 : op = 6
  · subst h6
    go_enter Tryz.func75, Tryz.ntmps75
    go_wp2
    go_ret
    exact ⟨rfl, rfl⟩
  by_cases h7 : op = 7
  · subst h7
    go_enter Tryz.func75, Tryz.ntmps75
    go_wp2
    go_ret
    exact ⟨rfl, rfl⟩
  by_cases h8 : op = 8
  · subst h8
    go_enter Tryz.func75, Tryz.ntmps75
    go_wp2
    go_ret
    exact ⟨rfl, rfl⟩
  rw [show bindE op = 4 from by unfold bindE; rw [if_neg h5, if_neg h6, if_neg h7, if_neg h8]]
  have e6 : (op == 6) = false := by rw [beq_eq_false_iff_ne]; exact h6
  have e7 : (op == 7) = false := by rw [beq_eq_false_iff_ne]; exact h7
  have e8 : (op == 8) = false := by rw [beq_eq_false_iff_ne]; exact h8
  go_enter Tryz.func75, Tryz.ntmps75
  go_wp2
  go_ret
  exact ⟨rfl, rfl⟩
/-- What is asked of Text, f levels left. -/
def TextAsk (f : Nat) : Prop := ∀ (e : Ex) (a : Nat), goodF f e = true → Short e → nodesE e ≤ 1500 → ∀ (B : Nat) (W : World) (v : Value), B ≤ W.heap.size → RepE W (fun k => k < B) e v →
  Calls Tryz.prog 41 #[v, .int .i64 (a : Int)] W fun e' w' => e' = .returned (.string (toS (textF f e a))) ∧ Below W.heap.size W w'
/-- What is asked of it, where no brackets are wanted. -/
def BareAsk (f : Nat) (e : Ex) : Prop := ∀ (a : Nat), a ≤ bindE e.op → ∀ (B : Nat) (W : World) (v : Value), B ≤ W.heap.size → RepE W (fun k => k < B) e v →
  Calls Tryz.prog 41 #[v, .int .i64 (a : Int)] W fun e' w' => e' = .returned (.string (toS (bareF f e))) ∧ Below W.heap.size W w'
/-- A text that is added up. -/
theorem text_size {f : Nat} {e : Ex} (hg : goodF f e = true) (hs : Short e) (hn : nodesE e ≤ 1500) (a : Nat) : Bytes (textF f e a) ∧ (toS (textF f e a)).size ≤ 10000000 := by
  obtain ⟨h1, h2⟩ := text_bl hg hs a
  exact ⟨h1, by rw [size_toS]; omega⟩
set_option maxRecDepth 100000 in
set_option maxHeartbeats 2000000 in
theorem bare1 {f : Nat} {n p : Int} {s : ByteArray} {l : List Ex} (hg : goodF (f + 1) (.mk 1 s n l p) = true) (hsh : Short (.mk 1 s n l p)) : BareAsk (f + 1) (.mk 1 s n l p) := by
  intro a ha B W v hB hv
  obtain ⟨A, c, rfl, _, hlc, _⟩ := hv.open
  have hs : s.size ≤ 3000 := hsh.parts.1
  show Calls Tryz.prog 41 #[.agg #[.int .i64 1, .string s, .int .i64 n, .slice A l.length c, .int .i64 p], _] W _
  rw [show bareF (f + 1) (.mk 1 s n l p) = (if n = 1 then [116, 114, 117, 101] else [102, 97, 108, 115, 101]) from rfl]

  obtain ⟨m, hm⟩ : ∃ m, m = l.length := ⟨_, rfl⟩
  rw [← hm]
  obtain ⟨R, hR⟩ : ∃ R, R = toS ((if n = 1 then [116, 114, 117, 101] else [102, 97, 108, 115, 101])) := ⟨_, rfl⟩
  rw [← hR]
  have HR0 := Lib.hid hR
  clear hR
  have ha5 : ¬ (5 : Int) < (a : Int) := by have : a ≤ 5 := ha; omega
  obtain ⟨w1, hw1⟩ : ∃ V, V = W.alloc (.cells #[.int .i64 1, .string s, .int .i64 n, .slice A m c, .int .i64 p] 42) := ⟨_, rfl⟩
  have HB1 : Hid (Below W.heap.size W w1) := Lib.hid (by rw [hw1]; exact belowAlloc W _)
  have HE1 : Hid (Blk w1 W.heap.size 42 [.int .i64 1, .string s, .int .i64 n, .slice A m c, .int .i64 p]) := Lib.hid (by rw [hw1]; exact heap_alloc_new W _)
  have HBI : Hid (Calls Tryz.prog 75 #[.int .i64 1] w1 fun e w' => e = .returned (.int .i64 5) ∧ w1 = w') := Lib.hid (refBind_any 1 w1)
  have HQ := Lib.hid (refQuoteX_any s w1 (by omega))
  obtain ⟨q1, hq1⟩ : ∃ q, q = (quoteN (strL s)).1 := ⟨_, rfl⟩
  obtain ⟨q2, hq2⟩ : ∃ q, q = (quoteN (strL s)).2 := ⟨_, rfl⟩
  have HQB : Hid (Bytes q1 ∧ (toS q1).size ≤ 6002) := Lib.hid (by rw [hq1]; have := bl_quote s; exact ⟨this.1, by rw [size_toS]; have := this.2; unfold quoteL at this; omega⟩)
  rw [← hq1, ← hq2] at HQ
  have HW1 := Lib.hid hw1
  have HQ1 := Lib.hid hq1
  obtain ⟨c0, c1, c2, c3, c4⟩ := cells5 HE1.out
  have d0 := c0; have d1 := c1; have d2 := c2; have d3 := c3; have d4 := c4
  rw [hw1] at c0 c1 c2 c3 c4
  clear hv hB hm hw1 hsh hg hlc ha hq1 hq2
  go_enter Tryz.func41, Tryz.ntmps41
  go_wp2_with fail
  rw [← HW1.out]
  (with_reducible refine HBI.out.mono ?_)
  rintro e w2 ⟨rfl, rfl⟩
  clear c0 c1 c2 c3 c4
  go_wp2_with fail
  (with_reducible refine HQ.out.mono ?_)
  rintro e w3 ⟨rfl, hb3⟩
  have HB3 := Lib.hid (HB1.out.trans (hb3.mono HB1.out.size))
  obtain ⟨c0, c1, c2, c3, c4⟩ := cells5 (HE1.out.below hb3 HE1.out.lt)
  clear hb3 d0 d1 d2 d3 d4
  by_cases hn1 : n = 1
  · subst hn1
    have HR : Hid (R = ⟨#[116, 114, 117, 101]⟩) := Lib.hid (by rw [HR0.out, if_pos rfl]; rfl)
    go_wp2
    go_ret
    rw [HR.out]
    exact ⟨rfl, HB3.out⟩
  · have HR : Hid (R = ⟨#[102, 97, 108, 115, 101]⟩) := Lib.hid (by rw [HR0.out, if_neg hn1]; rfl)
    have e1 : (n == 1) = false := by rw [beq_eq_false_iff_ne]; exact hn1
    go_wp2
    go_ret
    rw [HR.out]
    exact ⟨rfl, HB3.out⟩
set_option maxRecDepth 100000 in
set_option maxHeartbeats 2000000 in
theorem bare2 {f : Nat} {n p : Int} {s : ByteArray} {l : List Ex} (hg : goodF (f + 1) (.mk 2 s n l p) = true) (hsh : Short (.mk 2 s n l p)) : BareAsk (f + 1) (.mk 2 s n l p) := by
  intro a ha B W v hB hv
  obtain ⟨A, c, rfl, _, hlc, _⟩ := hv.open
  have hs : s.size ≤ 3000 := hsh.parts.1
  show Calls Tryz.prog 41 #[.agg #[.int .i64 2, .string s, .int .i64 n, .slice A l.length c, .int .i64 p], _] W _
  rw [show bareF (f + 1) (.mk 2 s n l p) = prL n from rfl]
  have hnb : -9223372036854775808 ≤ n ∧ n ≤ 9223372036854775807 := by
    have h := hg
    rw [goodF, if_neg (by decide), if_pos (by decide), Bool.and_eq_true] at h
    have h2 := h.2
    unfold leafG at h2
    rw [if_neg (by decide), if_pos rfl, Bool.and_eq_true] at h2
    have := of_decide_eq_true h2.2
    omega
  have HPR := Lib.hid (fun w => refPrint_any n w hnb.1 hnb.2)
  obtain ⟨X, hX⟩ : ∃ X, X = toS (prL n) := ⟨_, rfl⟩
  rw [← hX] at HPR ⊢
  have HRX := Lib.hid hX
  clear hX hnb
  obtain ⟨m, hm⟩ : ∃ m, m = l.length := ⟨_, rfl⟩
  rw [← hm]
  obtain ⟨R, hR⟩ : ∃ R, R = X := ⟨_, rfl⟩
  rw [← hR]
  have HR0 := Lib.hid hR
  clear hR
  have ha5 : ¬ (5 : Int) < (a : Int) := by have : a ≤ 5 := ha; omega
  obtain ⟨w1, hw1⟩ : ∃ V, V = W.alloc (.cells #[.int .i64 2, .string s, .int .i64 n, .slice A m c, .int .i64 p] 42) := ⟨_, rfl⟩
  have HB1 : Hid (Below W.heap.size W w1) := Lib.hid (by rw [hw1]; exact belowAlloc W _)
  have HE1 : Hid (Blk w1 W.heap.size 42 [.int .i64 2, .string s, .int .i64 n, .slice A m c, .int .i64 p]) := Lib.hid (by rw [hw1]; exact heap_alloc_new W _)
  have HBI : Hid (Calls Tryz.prog 75 #[.int .i64 2] w1 fun e w' => e = .returned (.int .i64 5) ∧ w1 = w') := Lib.hid (refBind_any 2 w1)
  have HQ := Lib.hid (refQuoteX_any s w1 (by omega))
  obtain ⟨q1, hq1⟩ : ∃ q, q = (quoteN (strL s)).1 := ⟨_, rfl⟩
  obtain ⟨q2, hq2⟩ : ∃ q, q = (quoteN (strL s)).2 := ⟨_, rfl⟩
  have HQB : Hid (Bytes q1 ∧ (toS q1).size ≤ 6002) := Lib.hid (by rw [hq1]; have := bl_quote s; exact ⟨this.1, by rw [size_toS]; have := this.2; unfold quoteL at this; omega⟩)
  rw [← hq1, ← hq2] at HQ
  have HW1 := Lib.hid hw1
  have HQ1 := Lib.hid hq1
  obtain ⟨c0, c1, c2, c3, c4⟩ := cells5 HE1.out
  have d0 := c0; have d1 := c1; have d2 := c2; have d3 := c3; have d4 := c4
  rw [hw1] at c0 c1 c2 c3 c4
  clear hv hB hm hw1 hsh hg hlc ha hq1 hq2
  go_enter Tryz.func41, Tryz.ntmps41
  go_wp2_with fail
  rw [← HW1.out]
  (with_reducible refine HBI.out.mono ?_)
  rintro e w2 ⟨rfl, rfl⟩
  clear c0 c1 c2 c3 c4
  go_wp2_with fail
  (with_reducible refine HQ.out.mono ?_)
  rintro e w3 ⟨rfl, hb3⟩
  have HB3 := Lib.hid (HB1.out.trans (hb3.mono HB1.out.size))
  obtain ⟨c0, c1, c2, c3, c4⟩ := cells5 (HE1.out.below hb3 HE1.out.lt)
  clear hb3 d0 d1 d2 d3 d4
  go_wp2_with fail
  (with_reducible refine (HPR.out _).mono ?_)
  rintro e w4 ⟨rfl, hb4⟩
  have HB4 := Lib.hid (HB3.out.trans (hb4.mono HB3.out.size))
  clear hb4
  go_wp2
  go_ret
  rw [HR0.out]
  exact ⟨rfl, HB4.out⟩
set_option maxRecDepth 100000 in
set_option maxHeartbeats 2000000 in
theorem bare3 {f : Nat} {n p : Int} {s : ByteArray} {l : List Ex} (hg : goodF (f + 1) (.mk 3 s n l p) = true) (hsh : Short (.mk 3 s n l p)) : BareAsk (f + 1) (.mk 3 s n l p) := by
  intro a ha B W v hB hv
  obtain ⟨A, c, rfl, _, hlc, _⟩ := hv.open
  have hs : s.size ≤ 3000 := hsh.parts.1
  show Calls Tryz.prog 41 #[.agg #[.int .i64 3, .string s, .int .i64 n, .slice A l.length c, .int .i64 p], _] W _
  rw [show bareF (f + 1) (.mk 3 s n l p) = (quoteN (strL s)).1 from rfl]

  obtain ⟨m, hm⟩ : ∃ m, m = l.length := ⟨_, rfl⟩
  rw [← hm]
  obtain ⟨R, hR⟩ : ∃ R, R = toS ((quoteN (strL s)).1) := ⟨_, rfl⟩
  rw [← hR]
  have HR0 := Lib.hid hR
  clear hR
  have ha5 : ¬ (5 : Int) < (a : Int) := by have : a ≤ 5 := ha; omega
  obtain ⟨w1, hw1⟩ : ∃ V, V = W.alloc (.cells #[.int .i64 3, .string s, .int .i64 n, .slice A m c, .int .i64 p] 42) := ⟨_, rfl⟩
  have HB1 : Hid (Below W.heap.size W w1) := Lib.hid (by rw [hw1]; exact belowAlloc W _)
  have HE1 : Hid (Blk w1 W.heap.size 42 [.int .i64 3, .string s, .int .i64 n, .slice A m c, .int .i64 p]) := Lib.hid (by rw [hw1]; exact heap_alloc_new W _)
  have HBI : Hid (Calls Tryz.prog 75 #[.int .i64 3] w1 fun e w' => e = .returned (.int .i64 5) ∧ w1 = w') := Lib.hid (refBind_any 3 w1)
  have HQ := Lib.hid (refQuoteX_any s w1 (by omega))
  obtain ⟨q1, hq1⟩ : ∃ q, q = (quoteN (strL s)).1 := ⟨_, rfl⟩
  obtain ⟨q2, hq2⟩ : ∃ q, q = (quoteN (strL s)).2 := ⟨_, rfl⟩
  have HQB : Hid (Bytes q1 ∧ (toS q1).size ≤ 6002) := Lib.hid (by rw [hq1]; have := bl_quote s; exact ⟨this.1, by rw [size_toS]; have := this.2; unfold quoteL at this; omega⟩)
  rw [← hq1, ← hq2] at HQ
  have HW1 := Lib.hid hw1
  have HQ1 := Lib.hid hq1
  obtain ⟨c0, c1, c2, c3, c4⟩ := cells5 HE1.out
  have d0 := c0; have d1 := c1; have d2 := c2; have d3 := c3; have d4 := c4
  rw [hw1] at c0 c1 c2 c3 c4
  clear hv hB hm hw1 hsh hg hlc ha hq1 hq2
  go_enter Tryz.func41, Tryz.ntmps41
  go_wp2_with fail
  rw [← HW1.out]
  (with_reducible refine HBI.out.mono ?_)
  rintro e w2 ⟨rfl, rfl⟩
  clear c0 c1 c2 c3 c4
  go_wp2_with fail
  (with_reducible refine HQ.out.mono ?_)
  rintro e w3 ⟨rfl, hb3⟩
  have HB3 := Lib.hid (HB1.out.trans (hb3.mono HB1.out.size))
  obtain ⟨c0, c1, c2, c3, c4⟩ := cells5 (HE1.out.below hb3 HE1.out.lt)
  clear hb3 d0 d1 d2 d3 d4
  have HR : Hid (R = toS q1) := Lib.hid (by rw [HR0.out, ← HQ1.out])
  go_wp2
  go_ret
  rw [HR.out]
  exact ⟨rfl, HB3.out⟩
set_option maxRecDepth 100000 in
set_option maxHeartbeats 2000000 in
theorem bare4 {f : Nat} {n p : Int} {s : ByteArray} {l : List Ex} (hg : goodF (f + 1) (.mk 4 s n l p) = true) (hsh : Short (.mk 4 s n l p)) : BareAsk (f + 1) (.mk 4 s n l p) := by
  intro a ha B W v hB hv
  obtain ⟨A, c, rfl, _, hlc, _⟩ := hv.open
  have hs : s.size ≤ 3000 := hsh.parts.1
  show Calls Tryz.prog 41 #[.agg #[.int .i64 4, .string s, .int .i64 n, .slice A l.length c, .int .i64 p], _] W _
  rw [show bareF (f + 1) (.mk 4 s n l p) = strL s from rfl]
  rw [show toS (strL s) = s from strL_inj (strL_toS (strL_bd s))]
  obtain ⟨m, hm⟩ : ∃ m, m = l.length := ⟨_, rfl⟩
  rw [← hm]
  have ha5 : ¬ (5 : Int) < (a : Int) := by have : a ≤ 5 := ha; omega
  obtain ⟨w1, hw1⟩ : ∃ V, V = W.alloc (.cells #[.int .i64 4, .string s, .int .i64 n, .slice A m c, .int .i64 p] 42) := ⟨_, rfl⟩
  have HB1 : Hid (Below W.heap.size W w1) := Lib.hid (by rw [hw1]; exact belowAlloc W _)
  have HE1 : Hid (Blk w1 W.heap.size 42 [.int .i64 4, .string s, .int .i64 n, .slice A m c, .int .i64 p]) := Lib.hid (by rw [hw1]; exact heap_alloc_new W _)
  have HBI : Hid (Calls Tryz.prog 75 #[.int .i64 4] w1 fun e w' => e = .returned (.int .i64 5) ∧ w1 = w') := Lib.hid (refBind_any 4 w1)
  have HQ := Lib.hid (refQuoteX_any s w1 (by omega))
  obtain ⟨q1, hq1⟩ : ∃ q, q = (quoteN (strL s)).1 := ⟨_, rfl⟩
  obtain ⟨q2, hq2⟩ : ∃ q, q = (quoteN (strL s)).2 := ⟨_, rfl⟩
  have HQB : Hid (Bytes q1 ∧ (toS q1).size ≤ 6002) := Lib.hid (by rw [hq1]; have := bl_quote s; exact ⟨this.1, by rw [size_toS]; have := this.2; unfold quoteL at this; omega⟩)
  rw [← hq1, ← hq2] at HQ
  have HW1 := Lib.hid hw1
  have HQ1 := Lib.hid hq1
  obtain ⟨c0, c1, c2, c3, c4⟩ := cells5 HE1.out
  have d0 := c0; have d1 := c1; have d2 := c2; have d3 := c3; have d4 := c4
  rw [hw1] at c0 c1 c2 c3 c4
  clear hv hB hm hw1 hsh hg hlc ha hq1 hq2
  go_enter Tryz.func41, Tryz.ntmps41
  go_wp2_with fail
  rw [← HW1.out]
  (with_reducible refine HBI.out.mono ?_)
  rintro e w2 ⟨rfl, rfl⟩
  clear c0 c1 c2 c3 c4
  go_wp2_with fail
  (with_reducible refine HQ.out.mono ?_)
  rintro e w3 ⟨rfl, hb3⟩
  have HB3 := Lib.hid (HB1.out.trans (hb3.mono HB1.out.size))
  obtain ⟨c0, c1, c2, c3, c4⟩ := cells5 (HE1.out.below hb3 HE1.out.lt)
  clear hb3 d0 d1 d2 d3 d4
  go_wp2
  go_ret
  exact ⟨rfl, HB3.out⟩
set_option maxRecDepth 100000 in
set_option maxHeartbeats 2000000 in
theorem bare5 {f : Nat} {n p : Int} {s : ByteArray} {l : List Ex} (hg : goodF (f + 1) (.mk 5 s n l p) = true) (hsh : Short (.mk 5 s n l p)) : BareAsk (f + 1) (.mk 5 s n l p) := by
  intro a ha B W v hB hv
  obtain ⟨A, c, rfl, _, hlc, _⟩ := hv.open
  have hs : s.size ≤ 3000 := hsh.parts.1
  show Calls Tryz.prog 41 #[.agg #[.int .i64 5, .string s, .int .i64 n, .slice A l.length c, .int .i64 p], _] W _
  rw [show bareF (f + 1) (.mk 5 s n l p) = [99, 108, 97, 105, 109, 40] ++ (quoteN (strL s)).1 ++ [41] from rfl]

  obtain ⟨m, hm⟩ : ∃ m, m = l.length := ⟨_, rfl⟩
  rw [← hm]
  obtain ⟨R, hR⟩ : ∃ R, R = toS ([99, 108, 97, 105, 109, 40] ++ (quoteN (strL s)).1 ++ [41]) := ⟨_, rfl⟩
  rw [← hR]
  have HR0 := Lib.hid hR
  clear hR
  have ha5 : ¬ (5 : Int) < (a : Int) := by have : a ≤ 5 := ha; omega
  obtain ⟨w1, hw1⟩ : ∃ V, V = W.alloc (.cells #[.int .i64 5, .string s, .int .i64 n, .slice A m c, .int .i64 p] 42) := ⟨_, rfl⟩
  have HB1 : Hid (Below W.heap.size W w1) := Lib.hid (by rw [hw1]; exact belowAlloc W _)
  have HE1 : Hid (Blk w1 W.heap.size 42 [.int .i64 5, .string s, .int .i64 n, .slice A m c, .int .i64 p]) := Lib.hid (by rw [hw1]; exact heap_alloc_new W _)
  have HBI : Hid (Calls Tryz.prog 75 #[.int .i64 5] w1 fun e w' => e = .returned (.int .i64 5) ∧ w1 = w') := Lib.hid (refBind_any 5 w1)
  have HQ := Lib.hid (refQuoteX_any s w1 (by omega))
  obtain ⟨q1, hq1⟩ : ∃ q, q = (quoteN (strL s)).1 := ⟨_, rfl⟩
  obtain ⟨q2, hq2⟩ : ∃ q, q = (quoteN (strL s)).2 := ⟨_, rfl⟩
  have HQB : Hid (Bytes q1 ∧ (toS q1).size ≤ 6002) := Lib.hid (by rw [hq1]; have := bl_quote s; exact ⟨this.1, by rw [size_toS]; have := this.2; unfold quoteL at this; omega⟩)
  rw [← hq1, ← hq2] at HQ
  have HW1 := Lib.hid hw1
  have HQ1 := Lib.hid hq1
  obtain ⟨c0, c1, c2, c3, c4⟩ := cells5 HE1.out
  have d0 := c0; have d1 := c1; have d2 := c2; have d3 := c3; have d4 := c4
  rw [hw1] at c0 c1 c2 c3 c4
  clear hv hB hm hw1 hsh hg hlc ha hq1 hq2
  go_enter Tryz.func41, Tryz.ntmps41
  go_wp2_with fail
  rw [← HW1.out]
  (with_reducible refine HBI.out.mono ?_)
  rintro e w2 ⟨rfl, rfl⟩
  clear c0 c1 c2 c3 c4
  go_wp2_with fail
  (with_reducible refine HQ.out.mono ?_)
  rintro e w3 ⟨rfl, hb3⟩
  have HB3 := Lib.hid (HB1.out.trans (hb3.mono HB1.out.size))
  obtain ⟨c0, c1, c2, c3, c4⟩ := cells5 (HE1.out.below hb3 HE1.out.lt)
  clear hb3 d0 d1 d2 d3 d4
  have HR : Hid (R = (⟨#[99, 108, 97, 105, 109, 40]⟩ : ByteArray) ++ toS q1 ++ ⟨#[41]⟩) := Lib.hid (by
    rw [HR0.out, ← HQ1.out]
    have b1 : Bytes [99, 108, 97, 105, 109, 40] := .of_mem (by decide)
    have b2 : Bytes [41] := .of_mem (by decide)
    rw [← toS_append (b1.append HQB.out.1) b2, ← toS_append b1 HQB.out.1]
    rfl)
  obtain ⟨U, hU⟩ : ∃ U, U = toS q1 := ⟨_, rfl⟩
  have hUs : U.size ≤ 6002 := by rw [hU]; exact HQB.out.2
  rw [← hU] at HR ⊢
  have hT1 : (⟨#[99, 108, 97, 105, 109, 40]⟩ : ByteArray).size + U.size ≤ 9223372036854775807 := by show 6 + U.size ≤ _; omega
  have hT2 : ((⟨#[99, 108, 97, 105, 109, 40]⟩ : ByteArray) ++ U).size + (⟨#[41]⟩ : ByteArray).size ≤ 9223372036854775807 := by rw [ByteArray.size_append]; show 6 + U.size + 1 ≤ _; omega
  clear hU HQ
  go_wp2
  go_ret
  rw [HR.out]
  exact ⟨rfl, HB3.out⟩
set_option maxRecDepth 100000 in
set_option maxHeartbeats 4000000 in
theorem bare6 {f : Nat} (ih : TextAsk f) {p : Int} {x : Ex} (hx : goodF f x = true ∧ Short x ∧ nodesE x ≤ 1500) : BareAsk (f + 1) (.mk 6 E0 0 [x] p) := by
  intro a ha B W v hB hv
  obtain ⟨A, c, rfl, _, hlc, hc⟩ := hv.open
  obtain ⟨g, o, rfl, hgB, hg, hre⟩ := hc (List.cons_ne_nil _ _)
  show Calls Tryz.prog 41 #[.agg #[.int .i64 6, .string E0, .int .i64 0, .slice (some ⟨g, o, none⟩) 1 c, .int .i64 p], _] W _
  have hlc : 1 ≤ c ∧ c ≤ 9223372036854775807 := hlc
  have hre : RepEs W (fun k => k < B) g o [x] := hre
  rw [RepEs] at hre
  obtain ⟨⟨vx, rx, fx⟩, _⟩ := hre
  rw [show bareF (f + 1) (.mk 6 E0 0 [x] p) = [110, 111, 116, 32] ++ textF f x 3 from rfl]
  have haB : ¬ (3 : Int) < (a : Int) := by have : a ≤ 3 := ha; omega
  have HCx := Lib.hid (fun (w : World) (hw : Below W.heap.size W w) => ih x 3 hx.1 hx.2.1 hx.2.2 B w vx (Nat.le_trans hB hw.size) (rx.under hB hw))
  rw [show ((3 : Nat) : Int) = 3 from rfl] at HCx
  obtain ⟨bbx, sx⟩ := text_size hx.1 hx.2.1 hx.2.2 3
  obtain ⟨tx, htx⟩ : ∃ t, t = textF f x 3 := ⟨_, rfl⟩
  rw [← htx] at bbx sx HCx ⊢
  have HDx := Lib.hid bbx
  obtain ⟨Yx, x3, xc, rfl, hz3, kx0, kx1, kx2, kx3, kx4⟩ := rx.cells fx
  clear hz3
  obtain ⟨x0, hn0⟩ : ∃ t, t = x.op := ⟨_, rfl⟩
  obtain ⟨x1, hn1⟩ : ∃ t, t = x.text := ⟨_, rfl⟩
  obtain ⟨x2, hn2⟩ : ∃ t, t = x.num := ⟨_, rfl⟩
  obtain ⟨x4, hn4⟩ : ∃ t, t = x.pos := ⟨_, rfl⟩
  rw [← hn0, ← hn1, ← hn2, ← hn4] at HCx
  rw [← hn0] at kx0
  rw [← hn1] at kx1
  rw [← hn2] at kx2
  rw [← hn4] at kx4
  clear hn0 hn1 hn2 hn4 htx fx rx hx
  obtain ⟨w1, hw1⟩ : ∃ V, V = W.alloc (.cells #[.int .i64 6, .string E0, .int .i64 0, .slice (some ⟨g, o, none⟩) 1 c, .int .i64 p] 42) := ⟨_, rfl⟩
  have HB1 : Hid (Below W.heap.size W w1) := Lib.hid (by rw [hw1]; exact belowAlloc W _)
  have HE1 : Hid (Blk w1 W.heap.size 42 [.int .i64 6, .string E0, .int .i64 0, .slice (some ⟨g, o, none⟩) 1 c, .int .i64 p]) := Lib.hid (by rw [hw1]; exact heap_alloc_new W _)
  have HBI : Hid (Calls Tryz.prog 75 #[.int .i64 6] w1 fun e w' => e = .returned (.int .i64 3) ∧ w1 = w') := Lib.hid (refBind_any 6 w1)
  have HQ := Lib.hid (refQuoteX_any E0 w1 (by decide))
  obtain ⟨q1, hq1⟩ : ∃ q, q = toS (quoteN (strL E0)).1 := ⟨_, rfl⟩
  obtain ⟨q2, hq2⟩ : ∃ q, q = (quoteN (strL E0)).2 := ⟨_, rfl⟩
  rw [← hq1, ← hq2] at HQ
  have HW1 := Lib.hid hw1
  have HGL := Lib.hid hg
  obtain ⟨c0, c1, c2, c3, c4⟩ := cells5 HE1.out
  have d0 := c0; have d1 := c1; have d2 := c2; have d3 := c3; have d4 := c4
  rw [hw1] at c0 c1 c2 c3 c4
  have HKS := Lib.hid (And.intro kx0 (And.intro kx1 (And.intro kx2 (And.intro kx3 kx4))))

  obtain ⟨R, hR⟩ : ∃ R, R = toS ([110, 111, 116, 32] ++ tx) := ⟨_, rfl⟩
  rw [← hR]
  have HR0 := Lib.hid hR
  clear hR
  clear hv hB hc hw1 ha hq1 hq2 hgB kx0 kx1 kx2 kx3 kx4 ih
  go_enter Tryz.func41, Tryz.ntmps41
  go_wp2_with fail
  rw [← HW1.out]
  (with_reducible refine HBI.out.mono ?_)
  rintro e w2 ⟨rfl, rfl⟩
  clear c0 c1 c2 c3 c4
  go_wp2_with fail
  (with_reducible refine HQ.out.mono ?_)
  rintro e w3 ⟨rfl, hb3⟩
  have HB3 := Lib.hid (HB1.out.trans (hb3.mono HB1.out.size))
  have HE3 := Lib.hid (HE1.out.below hb3 HE1.out.lt)
  obtain ⟨c0, c1, c2, c3, c4⟩ := cells5 HE3.out
  have kx0 := (HB3.out.cell (p := ⟨g, o, none⟩) HGL.out).trans HKS.out.1
  have kx1 := (HB3.out.cell (p := ⟨g, o + 1, none⟩) HGL.out).trans HKS.out.2.1
  have kx2 := (HB3.out.cell (p := ⟨g, o + 2, none⟩) HGL.out).trans HKS.out.2.2.1
  have kx3 := (HB3.out.cell (p := ⟨g, o + 3, none⟩) HGL.out).trans HKS.out.2.2.2.1
  have kx4 := (HB3.out.cell (p := ⟨g, o + 4, none⟩) HGL.out).trans HKS.out.2.2.2.2
  clear hb3 d0 d1 d2 d3 d4 HBI HQ
  have HR : Hid (R = (⟨#[110, 111, 116, 32]⟩ : ByteArray) ++ toS tx) := Lib.hid (by
    rw [HR0.out]
    have b1 : Bytes [110, 111, 116, 32] := .of_mem (by decide)
    rw [← toS_append b1 HDx.out]; rfl)
  have HCX := Lib.hid (HCx.out w3 HB3.out)
  obtain ⟨U, hU⟩ : ∃ U, U = toS tx := ⟨_, rfl⟩
  rw [← hU] at sx HCX HR
  have hT1 : (⟨#[110, 111, 116, 32]⟩ : ByteArray).size + U.size ≤ 9223372036854775807 := by show 4 + U.size ≤ _; omega
  clear hU HCx bbx
  go_wp2_with fail
  (with_reducible refine HCX.out.mono ?_)
  rintro e w4 ⟨rfl, hb4⟩
  have HB4 := Lib.hid (HB3.out.trans (hb4.mono HB3.out.size))
  clear hb4 c0 c1 c2 c3 c4 kx0 kx1 kx2 kx3 kx4
  go_wp2
  go_ret
  rw [HR.out]
  exact ⟨rfl, HB4.out⟩
set_option maxRecDepth 100000 in
set_option maxHeartbeats 4000000 in
theorem bare7 {f : Nat} (ih : TextAsk f) {p : Int} {x y : Ex} (hx : goodF f x = true ∧ Short x ∧ nodesE x ≤ 1500) (hy : goodF f y = true ∧ Short y ∧ nodesE y ≤ 1500) : BareAsk (f + 1) (.mk 7 E0 0 [x, y] p) := by
  intro a ha B W v hB hv
  obtain ⟨A, c, rfl, _, hlc, hc⟩ := hv.open
  obtain ⟨g, o, rfl, hgB, hg, hre⟩ := hc (List.cons_ne_nil _ _)
  show Calls Tryz.prog 41 #[.agg #[.int .i64 7, .string E0, .int .i64 0, .slice (some ⟨g, o, none⟩) 2 c, .int .i64 p], _] W _
  have hlc : 2 ≤ c ∧ c ≤ 9223372036854775807 := hlc
  have hre : RepEs W (fun k => k < B) g o [x, y] := hre
  rw [RepEs, RepEs] at hre
  obtain ⟨⟨vx, rx, fx⟩, ⟨vy, ry, fy⟩, _⟩ := hre
  rw [show bareF (f + 1) (.mk 7 E0 0 [x, y] p) = textF f x 2 ++ [32, 97, 110, 100, 32] ++ textF f y 3 from rfl]
  have haB : ¬ (2 : Int) < (a : Int) := by have : a ≤ 2 := ha; omega
  have HCx := Lib.hid (fun (w : World) (hw : Below W.heap.size W w) => ih x 2 hx.1 hx.2.1 hx.2.2 B w vx (Nat.le_trans hB hw.size) (rx.under hB hw))
  rw [show ((2 : Nat) : Int) = 2 from rfl] at HCx
  obtain ⟨bbx, sx⟩ := text_size hx.1 hx.2.1 hx.2.2 2
  obtain ⟨tx, htx⟩ : ∃ t, t = textF f x 2 := ⟨_, rfl⟩
  rw [← htx] at bbx sx HCx ⊢
  have HDx := Lib.hid bbx
  obtain ⟨Yx, x3, xc, rfl, hz3, kx0, kx1, kx2, kx3, kx4⟩ := rx.cells fx
  clear hz3
  obtain ⟨x0, hn0⟩ : ∃ t, t = x.op := ⟨_, rfl⟩
  obtain ⟨x1, hn1⟩ : ∃ t, t = x.text := ⟨_, rfl⟩
  obtain ⟨x2, hn2⟩ : ∃ t, t = x.num := ⟨_, rfl⟩
  obtain ⟨x4, hn4⟩ : ∃ t, t = x.pos := ⟨_, rfl⟩
  rw [← hn0, ← hn1, ← hn2, ← hn4] at HCx
  rw [← hn0] at kx0
  rw [← hn1] at kx1
  rw [← hn2] at kx2
  rw [← hn4] at kx4
  clear hn0 hn1 hn2 hn4 htx fx rx hx
  have HCy := Lib.hid (fun (w : World) (hw : Below W.heap.size W w) => ih y 3 hy.1 hy.2.1 hy.2.2 B w vy (Nat.le_trans hB hw.size) (ry.under hB hw))
  rw [show ((3 : Nat) : Int) = 3 from rfl] at HCy
  obtain ⟨bby, sy⟩ := text_size hy.1 hy.2.1 hy.2.2 3
  obtain ⟨ty, hty⟩ : ∃ t, t = textF f y 3 := ⟨_, rfl⟩
  rw [← hty] at bby sy HCy ⊢
  have HDy := Lib.hid bby
  obtain ⟨Yy, y3, yc, rfl, hz3, ky0, ky1, ky2, ky3, ky4⟩ := ry.cells fy
  clear hz3
  obtain ⟨y0, hn0⟩ : ∃ t, t = y.op := ⟨_, rfl⟩
  obtain ⟨y1, hn1⟩ : ∃ t, t = y.text := ⟨_, rfl⟩
  obtain ⟨y2, hn2⟩ : ∃ t, t = y.num := ⟨_, rfl⟩
  obtain ⟨y4, hn4⟩ : ∃ t, t = y.pos := ⟨_, rfl⟩
  rw [← hn0, ← hn1, ← hn2, ← hn4] at HCy
  rw [← hn0] at ky0
  rw [← hn1] at ky1
  rw [← hn2] at ky2
  rw [← hn4] at ky4
  clear hn0 hn1 hn2 hn4 hty fy ry hy
  obtain ⟨w1, hw1⟩ : ∃ V, V = W.alloc (.cells #[.int .i64 7, .string E0, .int .i64 0, .slice (some ⟨g, o, none⟩) 2 c, .int .i64 p] 42) := ⟨_, rfl⟩
  have HB1 : Hid (Below W.heap.size W w1) := Lib.hid (by rw [hw1]; exact belowAlloc W _)
  have HE1 : Hid (Blk w1 W.heap.size 42 [.int .i64 7, .string E0, .int .i64 0, .slice (some ⟨g, o, none⟩) 2 c, .int .i64 p]) := Lib.hid (by rw [hw1]; exact heap_alloc_new W _)
  have HBI : Hid (Calls Tryz.prog 75 #[.int .i64 7] w1 fun e w' => e = .returned (.int .i64 2) ∧ w1 = w') := Lib.hid (refBind_any 7 w1)
  have HQ := Lib.hid (refQuoteX_any E0 w1 (by decide))
  obtain ⟨q1, hq1⟩ : ∃ q, q = toS (quoteN (strL E0)).1 := ⟨_, rfl⟩
  obtain ⟨q2, hq2⟩ : ∃ q, q = (quoteN (strL E0)).2 := ⟨_, rfl⟩
  rw [← hq1, ← hq2] at HQ
  have HW1 := Lib.hid hw1
  have HGL := Lib.hid hg
  obtain ⟨c0, c1, c2, c3, c4⟩ := cells5 HE1.out
  have d0 := c0; have d1 := c1; have d2 := c2; have d3 := c3; have d4 := c4
  rw [hw1] at c0 c1 c2 c3 c4
  have HKS := Lib.hid (And.intro kx0 (And.intro kx1 (And.intro kx2 (And.intro kx3 kx4))))
  have HKT := Lib.hid (And.intro ky0 (And.intro ky1 (And.intro ky2 (And.intro ky3 ky4))))
  obtain ⟨R, hR⟩ : ∃ R, R = toS (tx ++ [32, 97, 110, 100, 32] ++ ty) := ⟨_, rfl⟩
  rw [← hR]
  have HR0 := Lib.hid hR
  clear hR
  clear hv hB hc hw1 ha hq1 hq2 hgB kx0 kx1 kx2 kx3 kx4 ky0 ky1 ky2 ky3 ky4 ih
  go_enter Tryz.func41, Tryz.ntmps41
  go_wp2_with fail
  rw [← HW1.out]
  (with_reducible refine HBI.out.mono ?_)
  rintro e w2 ⟨rfl, rfl⟩
  clear c0 c1 c2 c3 c4
  go_wp2_with fail
  (with_reducible refine HQ.out.mono ?_)
  rintro e w3 ⟨rfl, hb3⟩
  have HB3 := Lib.hid (HB1.out.trans (hb3.mono HB1.out.size))
  have HE3 := Lib.hid (HE1.out.below hb3 HE1.out.lt)
  obtain ⟨c0, c1, c2, c3, c4⟩ := cells5 HE3.out
  have kx0 := (HB3.out.cell (p := ⟨g, o, none⟩) HGL.out).trans HKS.out.1
  have kx1 := (HB3.out.cell (p := ⟨g, o + 1, none⟩) HGL.out).trans HKS.out.2.1
  have kx2 := (HB3.out.cell (p := ⟨g, o + 2, none⟩) HGL.out).trans HKS.out.2.2.1
  have kx3 := (HB3.out.cell (p := ⟨g, o + 3, none⟩) HGL.out).trans HKS.out.2.2.2.1
  have kx4 := (HB3.out.cell (p := ⟨g, o + 4, none⟩) HGL.out).trans HKS.out.2.2.2.2
  have ky0 := (HB3.out.cell (p := ⟨g, o + 5, none⟩) HGL.out).trans HKT.out.1
  have ky1 := (HB3.out.cell (p := ⟨g, o + 5 + 1, none⟩) HGL.out).trans HKT.out.2.1
  have ky2 := (HB3.out.cell (p := ⟨g, o + 5 + 2, none⟩) HGL.out).trans HKT.out.2.2.1
  have ky3 := (HB3.out.cell (p := ⟨g, o + 5 + 3, none⟩) HGL.out).trans HKT.out.2.2.2.1
  have ky4 := (HB3.out.cell (p := ⟨g, o + 5 + 4, none⟩) HGL.out).trans HKT.out.2.2.2.2
  clear hb3 d0 d1 d2 d3 d4 HBI HQ
  have HR : Hid (R = toS tx ++ (⟨#[32, 97, 110, 100, 32]⟩ : ByteArray) ++ toS ty) := Lib.hid (by
    rw [HR0.out]
    have b1 : Bytes [32, 97, 110, 100, 32] := .of_mem (by decide)
    rw [← toS_append (HDx.out.append b1) HDy.out, ← toS_append HDx.out b1]; rfl)
  have HCX := Lib.hid HCx.out
  have HCY := Lib.hid HCy.out
  obtain ⟨U, hU⟩ : ∃ U, U = toS tx := ⟨_, rfl⟩
  obtain ⟨V, hV⟩ : ∃ U, U = toS ty := ⟨_, rfl⟩
  rw [← hU] at sx HCX HR
  rw [← hV] at sy HCY HR
  have hT1 : U.size + (⟨#[32, 97, 110, 100, 32]⟩ : ByteArray).size ≤ 9223372036854775807 := by show U.size + 5 ≤ _; omega
  have hT2 : (U ++ (⟨#[32, 97, 110, 100, 32]⟩ : ByteArray)).size + V.size ≤ 9223372036854775807 := by rw [ByteArray.size_append]; show U.size + 5 + V.size ≤ _; omega
  have hN1 : ¬ 9223372036854775807 < U.size + 5 := by omega
  have hN2 : ¬ 9223372036854775807 < U.size + 5 + V.size := by omega
  clear hU hV HCx HCy bbx bby
  have HSX : Hid (∀ X, Below w3.heap.size w3 X → X.cell? ⟨W.heap.size, 3, none⟩ = some (.slice (some ⟨g, o, none⟩) 2 c) ∧ X.cell? ⟨g, o, none⟩ = some (.int .i64 x0) ∧ X.cell? ⟨g, o + 1, none⟩ = some (.string x1) ∧ X.cell? ⟨g, o + 2, none⟩ = some (.int .i64 x2) ∧ X.cell? ⟨g, o + 3, none⟩ = some (.slice Yx x3 xc) ∧ X.cell? ⟨g, o + 4, none⟩ = some (.int .i64 x4) ∧ X.cell? ⟨g, o + 5, none⟩ = some (.int .i64 y0) ∧ X.cell? ⟨g, o + 5 + 1, none⟩ = some (.string y1) ∧ X.cell? ⟨g, o + 5 + 2, none⟩ = some (.int .i64 y2) ∧ X.cell? ⟨g, o + 5 + 3, none⟩ = some (.slice Yy y3 yc) ∧ X.cell? ⟨g, o + 5 + 4, none⟩ = some (.int .i64 y4)) := Lib.hid (fun X hX => by
    have hXW := HB3.out.trans (hX.mono HB3.out.size)
    exact ⟨(HE3.out.below hX HE3.out.lt).cell 3, (hXW.cell (p := ⟨g, _, none⟩) HGL.out).trans HKS.out.1, (hXW.cell (p := ⟨g, _, none⟩) HGL.out).trans HKS.out.2.1, (hXW.cell (p := ⟨g, _, none⟩) HGL.out).trans HKS.out.2.2.1, (hXW.cell (p := ⟨g, _, none⟩) HGL.out).trans HKS.out.2.2.2.1, (hXW.cell (p := ⟨g, _, none⟩) HGL.out).trans HKS.out.2.2.2.2, (hXW.cell (p := ⟨g, _, none⟩) HGL.out).trans HKT.out.1, (hXW.cell (p := ⟨g, _, none⟩) HGL.out).trans HKT.out.2.1, (hXW.cell (p := ⟨g, _, none⟩) HGL.out).trans HKT.out.2.2.1, (hXW.cell (p := ⟨g, _, none⟩) HGL.out).trans HKT.out.2.2.2.1, (hXW.cell (p := ⟨g, _, none⟩) HGL.out).trans HKT.out.2.2.2.2⟩)
  go_wp2_with fail
  refine wp_region_held_drew (S := fun X => X.cell? ⟨W.heap.size, 3, none⟩ = some (.slice (some ⟨g, o, none⟩) 2 c) ∧ X.cell? ⟨g, o, none⟩ = some (.int .i64 x0) ∧ X.cell? ⟨g, o + 1, none⟩ = some (.string x1) ∧ X.cell? ⟨g, o + 2, none⟩ = some (.int .i64 x2) ∧ X.cell? ⟨g, o + 3, none⟩ = some (.slice Yx x3 xc) ∧ X.cell? ⟨g, o + 4, none⟩ = some (.int .i64 x4) ∧ X.cell? ⟨g, o + 5, none⟩ = some (.int .i64 y0) ∧ X.cell? ⟨g, o + 5 + 1, none⟩ = some (.string y1) ∧ X.cell? ⟨g, o + 5 + 2, none⟩ = some (.int .i64 y2) ∧ X.cell? ⟨g, o + 5 + 3, none⟩ = some (.slice Yy y3 yc) ∧ X.cell? ⟨g, o + 5 + 4, none⟩ = some (.int .i64 y4)) (by kernel_rfl) ⟨c3, kx0, kx1, kx2, kx3, kx4, ky0, ky1, ky2, ky3, ky4⟩ (fun hHeld => ?_)
  refine rgT 0 ?_
  try simp only [rgS]
  refine rgT 1 ?_
  try simp only [rgS]
  refine rgT 2 ?_
  try simp only [rgS]
  refine rgT 3 ?_
  try simp only [rgS]
  refine rgT 6 ?_
  try simp only [rgS]
  refine rgT 7 ?_
  try simp only [rgS]
  refine rgT 8 ?_
  try simp only [rgS]
  refine rgT 9 ?_
  try simp only [rgS]
  refine rgO 4 (fun K hK => ?_)
  go_simp
  (with_reducible refine (HCX.out w3.drew HB3.out.drew).mono ?_)
  rintro e w4 ⟨rfl, hb4⟩
  have hb4 : Below w3.heap.size w3 w4 := (Below.refl _ w3).drew.trans hb4
  have HB4 := Lib.hid hb4
  refine hK.out _ _ (HSX.out _ hb4) (fun hH4 => ?_)
  clear hK K hHeld hb4
  try simp only [rgS]
  refine rgT 5 ?_
  try simp only [rgS]
  refine rgO 10 (fun K hK => ?_)
  go_simp
  (with_reducible refine (HCY.out w4 (HB3.out.trans (HB4.out.mono HB3.out.size))).mono ?_)
  rintro e w5 ⟨rfl, hb5⟩
  have HB5 := Lib.hid (HB4.out.trans (hb5.mono HB4.out.size))
  refine hK.out _ _ (HSX.out _ HB5.out) (fun hH5 => ?_)
  clear hK K hH4 hb5
  try simp only [rgS]
  refine rgT 11 ?_
  try simp only [rgS]
  refine rgT 12 ?_
  try simp only [rgS]
  refine wpAnyH_done (by kernel_rfl) ?_ _
  clear hH5
  have HBF := Lib.hid (HB3.out.trans (HB5.out.mono HB3.out.size))
  go_wp2
  go_ret
  rw [HR.out]
  exact ⟨rfl, HBF.out⟩
set_option maxRecDepth 100000 in
set_option maxHeartbeats 4000000 in
theorem bare8 {f : Nat} (ih : TextAsk f) {p : Int} {x y : Ex} (hx : goodF f x = true ∧ Short x ∧ nodesE x ≤ 1500) (hy : goodF f y = true ∧ Short y ∧ nodesE y ≤ 1500) : BareAsk (f + 1) (.mk 8 E0 0 [x, y] p) := by
  intro a ha B W v hB hv
  obtain ⟨A, c, rfl, _, hlc, hc⟩ := hv.open
  obtain ⟨g, o, rfl, hgB, hg, hre⟩ := hc (List.cons_ne_nil _ _)
  show Calls Tryz.prog 41 #[.agg #[.int .i64 8, .string E0, .int .i64 0, .slice (some ⟨g, o, none⟩) 2 c, .int .i64 p], _] W _
  have hlc : 2 ≤ c ∧ c ≤ 9223372036854775807 := hlc
  have hre : RepEs W (fun k => k < B) g o [x, y] := hre
  rw [RepEs, RepEs] at hre
  obtain ⟨⟨vx, rx, fx⟩, ⟨vy, ry, fy⟩, _⟩ := hre
  rw [show bareF (f + 1) (.mk 8 E0 0 [x, y] p) = textF f x 1 ++ [32, 111, 114, 32] ++ textF f y 2 from rfl]
  have haB : ¬ (1 : Int) < (a : Int) := by have : a ≤ 1 := ha; omega
  have HCx := Lib.hid (fun (w : World) (hw : Below W.heap.size W w) => ih x 1 hx.1 hx.2.1 hx.2.2 B w vx (Nat.le_trans hB hw.size) (rx.under hB hw))
  rw [show ((1 : Nat) : Int) = 1 from rfl] at HCx
  obtain ⟨bbx, sx⟩ := text_size hx.1 hx.2.1 hx.2.2 1
  obtain ⟨tx, htx⟩ : ∃ t, t = textF f x 1 := ⟨_, rfl⟩
  rw [← htx] at bbx sx HCx ⊢
  have HDx := Lib.hid bbx
  obtain ⟨Yx, x3, xc, rfl, hz3, kx0, kx1, kx2, kx3, kx4⟩ := rx.cells fx
  clear hz3
  obtain ⟨x0, hn0⟩ : ∃ t, t = x.op := ⟨_, rfl⟩
  obtain ⟨x1, hn1⟩ : ∃ t, t = x.text := ⟨_, rfl⟩
  obtain ⟨x2, hn2⟩ : ∃ t, t = x.num := ⟨_, rfl⟩
  obtain ⟨x4, hn4⟩ : ∃ t, t = x.pos := ⟨_, rfl⟩
  rw [← hn0, ← hn1, ← hn2, ← hn4] at HCx
  rw [← hn0] at kx0
  rw [← hn1] at kx1
  rw [← hn2] at kx2
  rw [← hn4] at kx4
  clear hn0 hn1 hn2 hn4 htx fx rx hx
  have HCy := Lib.hid (fun (w : World) (hw : Below W.heap.size W w) => ih y 2 hy.1 hy.2.1 hy.2.2 B w vy (Nat.le_trans hB hw.size) (ry.under hB hw))
  rw [show ((2 : Nat) : Int) = 2 from rfl] at HCy
  obtain ⟨bby, sy⟩ := text_size hy.1 hy.2.1 hy.2.2 2
  obtain ⟨ty, hty⟩ : ∃ t, t = textF f y 2 := ⟨_, rfl⟩
  rw [← hty] at bby sy HCy ⊢
  have HDy := Lib.hid bby
  obtain ⟨Yy, y3, yc, rfl, hz3, ky0, ky1, ky2, ky3, ky4⟩ := ry.cells fy
  clear hz3
  obtain ⟨y0, hn0⟩ : ∃ t, t = y.op := ⟨_, rfl⟩
  obtain ⟨y1, hn1⟩ : ∃ t, t = y.text := ⟨_, rfl⟩
  obtain ⟨y2, hn2⟩ : ∃ t, t = y.num := ⟨_, rfl⟩
  obtain ⟨y4, hn4⟩ : ∃ t, t = y.pos := ⟨_, rfl⟩
  rw [← hn0, ← hn1, ← hn2, ← hn4] at HCy
  rw [← hn0] at ky0
  rw [← hn1] at ky1
  rw [← hn2] at ky2
  rw [← hn4] at ky4
  clear hn0 hn1 hn2 hn4 hty fy ry hy
  obtain ⟨w1, hw1⟩ : ∃ V, V = W.alloc (.cells #[.int .i64 8, .string E0, .int .i64 0, .slice (some ⟨g, o, none⟩) 2 c, .int .i64 p] 42) := ⟨_, rfl⟩
  have HB1 : Hid (Below W.heap.size W w1) := Lib.hid (by rw [hw1]; exact belowAlloc W _)
  have HE1 : Hid (Blk w1 W.heap.size 42 [.int .i64 8, .string E0, .int .i64 0, .slice (some ⟨g, o, none⟩) 2 c, .int .i64 p]) := Lib.hid (by rw [hw1]; exact heap_alloc_new W _)
  have HBI : Hid (Calls Tryz.prog 75 #[.int .i64 8] w1 fun e w' => e = .returned (.int .i64 1) ∧ w1 = w') := Lib.hid (refBind_any 8 w1)
  have HQ := Lib.hid (refQuoteX_any E0 w1 (by decide))
  obtain ⟨q1, hq1⟩ : ∃ q, q = toS (quoteN (strL E0)).1 := ⟨_, rfl⟩
  obtain ⟨q2, hq2⟩ : ∃ q, q = (quoteN (strL E0)).2 := ⟨_, rfl⟩
  rw [← hq1, ← hq2] at HQ
  have HW1 := Lib.hid hw1
  have HGL := Lib.hid hg
  obtain ⟨c0, c1, c2, c3, c4⟩ := cells5 HE1.out
  have d0 := c0; have d1 := c1; have d2 := c2; have d3 := c3; have d4 := c4
  rw [hw1] at c0 c1 c2 c3 c4
  have HKS := Lib.hid (And.intro kx0 (And.intro kx1 (And.intro kx2 (And.intro kx3 kx4))))
  have HKT := Lib.hid (And.intro ky0 (And.intro ky1 (And.intro ky2 (And.intro ky3 ky4))))
  obtain ⟨R, hR⟩ : ∃ R, R = toS (tx ++ [32, 111, 114, 32] ++ ty) := ⟨_, rfl⟩
  rw [← hR]
  have HR0 := Lib.hid hR
  clear hR
  clear hv hB hc hw1 ha hq1 hq2 hgB kx0 kx1 kx2 kx3 kx4 ky0 ky1 ky2 ky3 ky4 ih
  go_enter Tryz.func41, Tryz.ntmps41
  go_wp2_with fail
  rw [← HW1.out]
  (with_reducible refine HBI.out.mono ?_)
  rintro e w2 ⟨rfl, rfl⟩
  clear c0 c1 c2 c3 c4
  go_wp2_with fail
  (with_reducible refine HQ.out.mono ?_)
  rintro e w3 ⟨rfl, hb3⟩
  have HB3 := Lib.hid (HB1.out.trans (hb3.mono HB1.out.size))
  have HE3 := Lib.hid (HE1.out.below hb3 HE1.out.lt)
  obtain ⟨c0, c1, c2, c3, c4⟩ := cells5 HE3.out
  have kx0 := (HB3.out.cell (p := ⟨g, o, none⟩) HGL.out).trans HKS.out.1
  have kx1 := (HB3.out.cell (p := ⟨g, o + 1, none⟩) HGL.out).trans HKS.out.2.1
  have kx2 := (HB3.out.cell (p := ⟨g, o + 2, none⟩) HGL.out).trans HKS.out.2.2.1
  have kx3 := (HB3.out.cell (p := ⟨g, o + 3, none⟩) HGL.out).trans HKS.out.2.2.2.1
  have kx4 := (HB3.out.cell (p := ⟨g, o + 4, none⟩) HGL.out).trans HKS.out.2.2.2.2
  have ky0 := (HB3.out.cell (p := ⟨g, o + 5, none⟩) HGL.out).trans HKT.out.1
  have ky1 := (HB3.out.cell (p := ⟨g, o + 5 + 1, none⟩) HGL.out).trans HKT.out.2.1
  have ky2 := (HB3.out.cell (p := ⟨g, o + 5 + 2, none⟩) HGL.out).trans HKT.out.2.2.1
  have ky3 := (HB3.out.cell (p := ⟨g, o + 5 + 3, none⟩) HGL.out).trans HKT.out.2.2.2.1
  have ky4 := (HB3.out.cell (p := ⟨g, o + 5 + 4, none⟩) HGL.out).trans HKT.out.2.2.2.2
  clear hb3 d0 d1 d2 d3 d4 HBI HQ
  have HR : Hid (R = toS tx ++ (⟨#[32, 111, 114, 32]⟩ : ByteArray) ++ toS ty) := Lib.hid (by
    rw [HR0.out]
    have b1 : Bytes [32, 111, 114, 32] := .of_mem (by decide)
    rw [← toS_append (HDx.out.append b1) HDy.out, ← toS_append HDx.out b1]; rfl)
  have HCX := Lib.hid HCx.out
  have HCY := Lib.hid HCy.out
  obtain ⟨U, hU⟩ : ∃ U, U = toS tx := ⟨_, rfl⟩
  obtain ⟨V, hV⟩ : ∃ U, U = toS ty := ⟨_, rfl⟩
  rw [← hU] at sx HCX HR
  rw [← hV] at sy HCY HR
  have hT1 : U.size + (⟨#[32, 111, 114, 32]⟩ : ByteArray).size ≤ 9223372036854775807 := by show U.size + 4 ≤ _; omega
  have hT2 : (U ++ (⟨#[32, 111, 114, 32]⟩ : ByteArray)).size + V.size ≤ 9223372036854775807 := by rw [ByteArray.size_append]; show U.size + 4 + V.size ≤ _; omega
  have hN1 : ¬ 9223372036854775807 < U.size + 4 := by omega
  have hN2 : ¬ 9223372036854775807 < U.size + 4 + V.size := by omega
  clear hU hV HCx HCy bbx bby
  have HSX : Hid (∀ X, Below w3.heap.size w3 X → X.cell? ⟨W.heap.size, 3, none⟩ = some (.slice (some ⟨g, o, none⟩) 2 c) ∧ X.cell? ⟨g, o, none⟩ = some (.int .i64 x0) ∧ X.cell? ⟨g, o + 1, none⟩ = some (.string x1) ∧ X.cell? ⟨g, o + 2, none⟩ = some (.int .i64 x2) ∧ X.cell? ⟨g, o + 3, none⟩ = some (.slice Yx x3 xc) ∧ X.cell? ⟨g, o + 4, none⟩ = some (.int .i64 x4) ∧ X.cell? ⟨g, o + 5, none⟩ = some (.int .i64 y0) ∧ X.cell? ⟨g, o + 5 + 1, none⟩ = some (.string y1) ∧ X.cell? ⟨g, o + 5 + 2, none⟩ = some (.int .i64 y2) ∧ X.cell? ⟨g, o + 5 + 3, none⟩ = some (.slice Yy y3 yc) ∧ X.cell? ⟨g, o + 5 + 4, none⟩ = some (.int .i64 y4)) := Lib.hid (fun X hX => by
    have hXW := HB3.out.trans (hX.mono HB3.out.size)
    exact ⟨(HE3.out.below hX HE3.out.lt).cell 3, (hXW.cell (p := ⟨g, _, none⟩) HGL.out).trans HKS.out.1, (hXW.cell (p := ⟨g, _, none⟩) HGL.out).trans HKS.out.2.1, (hXW.cell (p := ⟨g, _, none⟩) HGL.out).trans HKS.out.2.2.1, (hXW.cell (p := ⟨g, _, none⟩) HGL.out).trans HKS.out.2.2.2.1, (hXW.cell (p := ⟨g, _, none⟩) HGL.out).trans HKS.out.2.2.2.2, (hXW.cell (p := ⟨g, _, none⟩) HGL.out).trans HKT.out.1, (hXW.cell (p := ⟨g, _, none⟩) HGL.out).trans HKT.out.2.1, (hXW.cell (p := ⟨g, _, none⟩) HGL.out).trans HKT.out.2.2.1, (hXW.cell (p := ⟨g, _, none⟩) HGL.out).trans HKT.out.2.2.2.1, (hXW.cell (p := ⟨g, _, none⟩) HGL.out).trans HKT.out.2.2.2.2⟩)
  go_wp2_with fail
  refine wp_region_held_drew (S := fun X => X.cell? ⟨W.heap.size, 3, none⟩ = some (.slice (some ⟨g, o, none⟩) 2 c) ∧ X.cell? ⟨g, o, none⟩ = some (.int .i64 x0) ∧ X.cell? ⟨g, o + 1, none⟩ = some (.string x1) ∧ X.cell? ⟨g, o + 2, none⟩ = some (.int .i64 x2) ∧ X.cell? ⟨g, o + 3, none⟩ = some (.slice Yx x3 xc) ∧ X.cell? ⟨g, o + 4, none⟩ = some (.int .i64 x4) ∧ X.cell? ⟨g, o + 5, none⟩ = some (.int .i64 y0) ∧ X.cell? ⟨g, o + 5 + 1, none⟩ = some (.string y1) ∧ X.cell? ⟨g, o + 5 + 2, none⟩ = some (.int .i64 y2) ∧ X.cell? ⟨g, o + 5 + 3, none⟩ = some (.slice Yy y3 yc) ∧ X.cell? ⟨g, o + 5 + 4, none⟩ = some (.int .i64 y4)) (by kernel_rfl) ⟨c3, kx0, kx1, kx2, kx3, kx4, ky0, ky1, ky2, ky3, ky4⟩ (fun hHeld => ?_)
  refine rgT 0 ?_
  try simp only [rgS]
  refine rgT 1 ?_
  try simp only [rgS]
  refine rgT 2 ?_
  try simp only [rgS]
  refine rgT 3 ?_
  try simp only [rgS]
  refine rgT 6 ?_
  try simp only [rgS]
  refine rgT 7 ?_
  try simp only [rgS]
  refine rgT 8 ?_
  try simp only [rgS]
  refine rgT 9 ?_
  try simp only [rgS]
  refine rgO 4 (fun K hK => ?_)
  go_simp
  (with_reducible refine (HCX.out w3.drew HB3.out.drew).mono ?_)
  rintro e w4 ⟨rfl, hb4⟩
  have hb4 : Below w3.heap.size w3 w4 := (Below.refl _ w3).drew.trans hb4
  have HB4 := Lib.hid hb4
  refine hK.out _ _ (HSX.out _ hb4) (fun hH4 => ?_)
  clear hK K hHeld hb4
  try simp only [rgS]
  refine rgT 5 ?_
  try simp only [rgS]
  refine rgO 10 (fun K hK => ?_)
  go_simp
  (with_reducible refine (HCY.out w4 (HB3.out.trans (HB4.out.mono HB3.out.size))).mono ?_)
  rintro e w5 ⟨rfl, hb5⟩
  have HB5 := Lib.hid (HB4.out.trans (hb5.mono HB4.out.size))
  refine hK.out _ _ (HSX.out _ HB5.out) (fun hH5 => ?_)
  clear hK K hH4 hb5
  try simp only [rgS]
  refine rgT 11 ?_
  try simp only [rgS]
  refine rgT 12 ?_
  try simp only [rgS]
  refine wpAnyH_done (by kernel_rfl) ?_ _
  clear hH5
  have HBF := Lib.hid (HB3.out.trans (HB5.out.mono HB3.out.size))
  go_wp2
  go_ret
  rw [HR.out]
  exact ⟨rfl, HBF.out⟩
/-- The signs that stand in the reference's list. -/
def polSigns : List ByteArray := [⟨#[61]⟩, ⟨#[33, 61]⟩, ⟨#[60]⟩, ⟨#[60, 61]⟩, ⟨#[]⟩, ⟨#[104, 97, 115]⟩]
theorem polSigns_is {op : Int} (h : op = 9 ∨ op = 10 ∨ op = 11 ∨ op = 12 ∨ op = 14) : ∃ k : Nat, k < 6 ∧ op - 9 = (k : Int) ∧ polSigns[k]? = some (toS (signL op)) ∧ BL 3 (signL op) ∧ bindE op = 4 := by
  rcases h with rfl | rfl | rfl | rfl | rfl
  · exact ⟨0, by decide, rfl, rfl, (bl_lit _ rfl).le (by decide), rfl⟩
  · exact ⟨1, by decide, rfl, rfl, (bl_lit _ rfl).le (by decide), rfl⟩
  · exact ⟨2, by decide, rfl, rfl, (bl_lit _ rfl).le (by decide), rfl⟩
  · exact ⟨3, by decide, rfl, rfl, (bl_lit _ rfl).le (by decide), rfl⟩
  · exact ⟨5, by decide, rfl, rfl, (bl_lit _ rfl).le (by decide), rfl⟩
end Go.Proofs.YtcjfealalokjaaaGreatDoor
namespace Go.Proofs.YtcjfealalokjaaaGreatDoor
open Go Go.RowKit
set_option maxRecDepth 100000 in
set_option maxHeartbeats 4000000 in
theorem bareS {f : Nat} (ih : TextAsk f) {p : Int} {x y : Ex} (hx : goodF f x = true ∧ Short x ∧ nodesE x ≤ 1500) (hy : goodF f y = true ∧ Short y ∧ nodesE y ≤ 1500) {k : Nat} (hk6 : k < 6) (hk4 : k ≠ 4) (hsg : polSigns[k]? = some (toS (signL ((k : Int) + 9))) ∧ BL 3 (signL ((k : Int) + 9))) (hbd : bindE ((k : Int) + 9) = 4) : BareAsk (f + 1) (.mk ((k : Int) + 9) E0 0 [x, y] p) := by
  intro a ha B W v hB hv
  have HSG : Hid (polSigns[k]? = some (toS (signL ((k : Int) + 9))) ∧ Bytes (signL ((k : Int) + 9)) ∧ (signL ((k : Int) + 9)).length ≤ 3) := Lib.hid ⟨hsg.1, hsg.2.1, hsg.2.2⟩
  clear hsg
  have e1 : ((k : Int) + 9 == 1) = false := by rw [beq_eq_false_iff_ne]; omega
  have e2 : ((k : Int) + 9 == 2) = false := by rw [beq_eq_false_iff_ne]; omega
  have e3 : ((k : Int) + 9 == 3) = false := by rw [beq_eq_false_iff_ne]; omega
  have e4 : ((k : Int) + 9 == 4) = false := by rw [beq_eq_false_iff_ne]; omega
  have e5 : ((k : Int) + 9 == 5) = false := by rw [beq_eq_false_iff_ne]; omega
  have e6 : ((k : Int) + 9 == 6) = false := by rw [beq_eq_false_iff_ne]; omega
  have e7 : ((k : Int) + 9 == 7) = false := by rw [beq_eq_false_iff_ne]; omega
  have e8 : ((k : Int) + 9 == 8) = false := by rw [beq_eq_false_iff_ne]; omega
  have e13 : ((k : Int) + 9 == 13) = false := by rw [beq_eq_false_iff_ne]; omega
  obtain ⟨A, c, rfl, _, hlc, hc⟩ := hv.open
  obtain ⟨g, o, rfl, hgB, hg, hre⟩ := hc (List.cons_ne_nil _ _)
  show Calls Tryz.prog 41 #[.agg #[.int .i64 ((k : Int) + 9), .string E0, .int .i64 0, .slice (some ⟨g, o, none⟩) 2 c, .int .i64 p], _] W _
  have hlc : 2 ≤ c ∧ c ≤ 9223372036854775807 := hlc
  have hre : RepEs W (fun k => k < B) g o [x, y] := hre
  rw [RepEs, RepEs] at hre
  obtain ⟨⟨vx, rx, fx⟩, ⟨vy, ry, fy⟩, _⟩ := hre
  rw [show bareF (f + 1) (.mk ((k : Int) + 9) E0 0 [x, y] p) = textF f x 5 ++ 32 :: (signL ((k : Int) + 9) ++ 32 :: textF f y 5) from by
    rw [bareF]
    simp only
    rw [if_neg (by omega), if_neg (by omega), if_neg (by omega), if_neg (by omega), if_neg (by omega), if_neg (by omega), if_neg (by omega), if_neg (by omega), if_neg (by omega)]
    rfl]
  have haB : ¬ (4 : Int) < (a : Int) := by have : a ≤ 4 := (by have h := ha; rw [show (Ex.mk ((k : Int) + 9) E0 0 [x, y] p).op = ((k : Int) + 9) from rfl, hbd] at h; exact h); omega
  have HCx := Lib.hid (fun (w : World) (hw : Below W.heap.size W w) => ih x 5 hx.1 hx.2.1 hx.2.2 B w vx (Nat.le_trans hB hw.size) (rx.under hB hw))
  rw [show ((5 : Nat) : Int) = 5 from rfl] at HCx
  obtain ⟨bbx, sx⟩ := text_size hx.1 hx.2.1 hx.2.2 5
  obtain ⟨tx, htx⟩ : ∃ t, t = textF f x 5 := ⟨_, rfl⟩
  rw [← htx] at bbx sx HCx ⊢
  have HDx := Lib.hid bbx
  obtain ⟨Yx, x3, xc, rfl, hz3, kx0, kx1, kx2, kx3, kx4⟩ := rx.cells fx
  clear hz3
  obtain ⟨x0, hn0⟩ : ∃ t, t = x.op := ⟨_, rfl⟩
  obtain ⟨x1, hn1⟩ : ∃ t, t = x.text := ⟨_, rfl⟩
  obtain ⟨x2, hn2⟩ : ∃ t, t = x.num := ⟨_, rfl⟩
  obtain ⟨x4, hn4⟩ : ∃ t, t = x.pos := ⟨_, rfl⟩
  rw [← hn0, ← hn1, ← hn2, ← hn4] at HCx
  rw [← hn0] at kx0
  rw [← hn1] at kx1
  rw [← hn2] at kx2
  rw [← hn4] at kx4
  clear hn0 hn1 hn2 hn4 htx fx rx hx
  have HCy := Lib.hid (fun (w : World) (hw : Below W.heap.size W w) => ih y 5 hy.1 hy.2.1 hy.2.2 B w vy (Nat.le_trans hB hw.size) (ry.under hB hw))
  rw [show ((5 : Nat) : Int) = 5 from rfl] at HCy
  obtain ⟨bby, sy⟩ := text_size hy.1 hy.2.1 hy.2.2 5
  obtain ⟨ty, hty⟩ : ∃ t, t = textF f y 5 := ⟨_, rfl⟩
  rw [← hty] at bby sy HCy ⊢
  have HDy := Lib.hid bby
  obtain ⟨Yy, y3, yc, rfl, hz3, ky0, ky1, ky2, ky3, ky4⟩ := ry.cells fy
  clear hz3
  obtain ⟨y0, hn0⟩ : ∃ t, t = y.op := ⟨_, rfl⟩
  obtain ⟨y1, hn1⟩ : ∃ t, t = y.text := ⟨_, rfl⟩
  obtain ⟨y2, hn2⟩ : ∃ t, t = y.num := ⟨_, rfl⟩
  obtain ⟨y4, hn4⟩ : ∃ t, t = y.pos := ⟨_, rfl⟩
  rw [← hn0, ← hn1, ← hn2, ← hn4] at HCy
  rw [← hn0] at ky0
  rw [← hn1] at ky1
  rw [← hn2] at ky2
  rw [← hn4] at ky4
  clear hn0 hn1 hn2 hn4 hty fy ry hy
  obtain ⟨w1, hw1⟩ : ∃ V, V = W.alloc (.cells #[.int .i64 ((k : Int) + 9), .string E0, .int .i64 0, .slice (some ⟨g, o, none⟩) 2 c, .int .i64 p] 42) := ⟨_, rfl⟩
  have HB1 : Hid (Below W.heap.size W w1) := Lib.hid (by rw [hw1]; exact belowAlloc W _)
  have HE1 : Hid (Blk w1 W.heap.size 42 [.int .i64 ((k : Int) + 9), .string E0, .int .i64 0, .slice (some ⟨g, o, none⟩) 2 c, .int .i64 p]) := Lib.hid (by rw [hw1]; exact heap_alloc_new W _)
  have HBI : Hid (Calls Tryz.prog 75 #[.int .i64 ((k : Int) + 9)] w1 fun e w' => e = .returned (.int .i64 4) ∧ w1 = w') := Lib.hid (by have := refBind_any ((k : Int) + 9) w1; rw [hbd] at this; exact this)
  have HQ := Lib.hid (refQuoteX_any E0 w1 (by decide))
  obtain ⟨q1, hq1⟩ : ∃ q, q = toS (quoteN (strL E0)).1 := ⟨_, rfl⟩
  obtain ⟨q2, hq2⟩ : ∃ q, q = (quoteN (strL E0)).2 := ⟨_, rfl⟩
  rw [← hq1, ← hq2] at HQ
  have HW1 := Lib.hid hw1
  have HGL := Lib.hid hg
  obtain ⟨c0, c1, c2, c3, c4⟩ := cells5 HE1.out
  have d0 := c0; have d1 := c1; have d2 := c2; have d3 := c3; have d4 := c4
  rw [hw1] at c0 c1 c2 c3 c4
  have HKS := Lib.hid (And.intro kx0 (And.intro kx1 (And.intro kx2 (And.intro kx3 kx4))))
  have HKT := Lib.hid (And.intro ky0 (And.intro ky1 (And.intro ky2 (And.intro ky3 ky4))))
  obtain ⟨R, hR⟩ : ∃ R, R = toS (tx ++ 32 :: (signL ((k : Int) + 9) ++ 32 :: ty)) := ⟨_, rfl⟩
  rw [← hR]
  have HR0 := Lib.hid hR
  clear hR
  clear hv hB hc hw1 ha hq1 hq2 hgB kx0 kx1 kx2 kx3 kx4 ky0 ky1 ky2 ky3 ky4 ih
  go_enter Tryz.func41, Tryz.ntmps41
  go_wp2_with fail
  rw [← HW1.out]
  (with_reducible refine HBI.out.mono ?_)
  rintro e w2 ⟨rfl, rfl⟩
  clear c0 c1 c2 c3 c4
  go_wp2_with fail
  (with_reducible refine HQ.out.mono ?_)
  rintro e w3 ⟨rfl, hb3⟩
  have HB3 := Lib.hid (HB1.out.trans (hb3.mono HB1.out.size))
  have HE3 := Lib.hid (HE1.out.below hb3 HE1.out.lt)
  obtain ⟨c0, c1, c2, c3, c4⟩ := cells5 HE3.out
  have kx0 := (HB3.out.cell (p := ⟨g, o, none⟩) HGL.out).trans HKS.out.1
  have kx1 := (HB3.out.cell (p := ⟨g, o + 1, none⟩) HGL.out).trans HKS.out.2.1
  have kx2 := (HB3.out.cell (p := ⟨g, o + 2, none⟩) HGL.out).trans HKS.out.2.2.1
  have kx3 := (HB3.out.cell (p := ⟨g, o + 3, none⟩) HGL.out).trans HKS.out.2.2.2.1
  have kx4 := (HB3.out.cell (p := ⟨g, o + 4, none⟩) HGL.out).trans HKS.out.2.2.2.2
  have ky0 := (HB3.out.cell (p := ⟨g, o + 5, none⟩) HGL.out).trans HKT.out.1
  have ky1 := (HB3.out.cell (p := ⟨g, o + 5 + 1, none⟩) HGL.out).trans HKT.out.2.1
  have ky2 := (HB3.out.cell (p := ⟨g, o + 5 + 2, none⟩) HGL.out).trans HKT.out.2.2.1
  have ky3 := (HB3.out.cell (p := ⟨g, o + 5 + 3, none⟩) HGL.out).trans HKT.out.2.2.2.1
  have ky4 := (HB3.out.cell (p := ⟨g, o + 5 + 4, none⟩) HGL.out).trans HKT.out.2.2.2.2
  clear hb3 d0 d1 d2 d3 d4 HBI HQ
  have HR : Hid (R = toS tx ++ (⟨#[32]⟩ : ByteArray) ++ toS (signL ((k : Int) + 9)) ++ (⟨#[32]⟩ : ByteArray) ++ toS ty) := Lib.hid (by
    have b1 : Bytes [32] := .of_mem (by decide)
    have bs := HSG.out.2.1
    rw [HR0.out, show (⟨#[32]⟩ : ByteArray) = toS [32] from rfl, toS_append HDx.out b1, toS_append (HDx.out.append b1) bs, toS_append ((HDx.out.append b1).append bs) b1, toS_append (((HDx.out.append b1).append bs).append b1) HDy.out]
    simp)
  have HCX := Lib.hid HCx.out
  have HCY := Lib.hid HCy.out
  obtain ⟨U, hU⟩ : ∃ U, U = toS tx := ⟨_, rfl⟩
  obtain ⟨V, hV⟩ : ∃ U, U = toS ty := ⟨_, rfl⟩
  obtain ⟨G, hG⟩ : ∃ U, U = toS (signL ((k : Int) + 9)) := ⟨_, rfl⟩
  have hGs : G.size ≤ 3 := by rw [hG, size_toS]; exact HSG.out.2.2
  have hsk : polSigns[k]? = some G := by rw [hG]; exact HSG.out.1
  rw [← hU] at sx HCX HR
  rw [← hV] at sy HCY HR
  rw [← hG] at HR
  have hN1 : ¬ 9223372036854775807 < U.size + 1 := by omega
  have hN2 : ¬ 9223372036854775807 < U.size + 1 + G.size := by omega
  have hN3 : ¬ 9223372036854775807 < U.size + 1 + G.size + 1 := by omega
  have hN4 : ¬ 9223372036854775807 < U.size + 1 + G.size + 1 + V.size := by omega
  obtain ⟨w4, hw4⟩ : ∃ W, W = (w3.alloc (.cells #[.string ⟨#[61]⟩, .string ⟨#[33, 61]⟩, .string ⟨#[60]⟩, .string ⟨#[60, 61]⟩, .string ⟨#[]⟩, .string ⟨#[104, 97, 115]⟩] 9)) := ⟨_, rfl⟩
  have hb4 : Below w3.heap.size w3 w4 := by rw [hw4]; exact belowAlloc w3 _
  have hcS : w4.cell? ⟨w3.heap.size, k, none⟩ = some (.string G) := by
    have hb : Blk w4 w3.heap.size 9 [.string ⟨#[61]⟩, .string ⟨#[33, 61]⟩, .string ⟨#[60]⟩, .string ⟨#[60, 61]⟩, .string ⟨#[]⟩, .string ⟨#[104, 97, 115]⟩] := by rw [hw4]; exact blkNew w3 _ _
    exact (hb.cell k).trans (by rw [show [.string ⟨#[61]⟩, .string ⟨#[33, 61]⟩, .string ⟨#[60]⟩, .string ⟨#[60, 61]⟩, .string ⟨#[]⟩, .string ⟨#[104, 97, 115]⟩] = polSigns.map Value.string from rfl, List.getElem?_map, hsk]; rfl)
  have hc0 : w4.cell? ⟨W.heap.size, 0, none⟩ = some (.int .i64 ((k : Int) + 9)) := (hb4.cell (p := ⟨W.heap.size, 0, none⟩) HE3.out.lt).trans c0
  have HSX : Hid (∀ X, Below w3.heap.size w3 X → X.cell? ⟨W.heap.size, 3, none⟩ = some (.slice (some ⟨g, o, none⟩) 2 c) ∧ X.cell? ⟨g, o, none⟩ = some (.int .i64 x0) ∧ X.cell? ⟨g, o + 1, none⟩ = some (.string x1) ∧ X.cell? ⟨g, o + 2, none⟩ = some (.int .i64 x2) ∧ X.cell? ⟨g, o + 3, none⟩ = some (.slice Yx x3 xc) ∧ X.cell? ⟨g, o + 4, none⟩ = some (.int .i64 x4) ∧ X.cell? ⟨g, o + 5, none⟩ = some (.int .i64 y0) ∧ X.cell? ⟨g, o + 5 + 1, none⟩ = some (.string y1) ∧ X.cell? ⟨g, o + 5 + 2, none⟩ = some (.int .i64 y2) ∧ X.cell? ⟨g, o + 5 + 3, none⟩ = some (.slice Yy y3 yc) ∧ X.cell? ⟨g, o + 5 + 4, none⟩ = some (.int .i64 y4)) := Lib.hid (fun X hX => by
    have hXW := HB3.out.trans (hX.mono HB3.out.size)
    exact ⟨(HE3.out.below hX HE3.out.lt).cell 3, (hXW.cell (p := ⟨g, _, none⟩) HGL.out).trans HKS.out.1, (hXW.cell (p := ⟨g, _, none⟩) HGL.out).trans HKS.out.2.1, (hXW.cell (p := ⟨g, _, none⟩) HGL.out).trans HKS.out.2.2.1, (hXW.cell (p := ⟨g, _, none⟩) HGL.out).trans HKS.out.2.2.2.1, (hXW.cell (p := ⟨g, _, none⟩) HGL.out).trans HKS.out.2.2.2.2, (hXW.cell (p := ⟨g, _, none⟩) HGL.out).trans HKT.out.1, (hXW.cell (p := ⟨g, _, none⟩) HGL.out).trans HKT.out.2.1, (hXW.cell (p := ⟨g, _, none⟩) HGL.out).trans HKT.out.2.2.1, (hXW.cell (p := ⟨g, _, none⟩) HGL.out).trans HKT.out.2.2.2.1, (hXW.cell (p := ⟨g, _, none⟩) HGL.out).trans HKT.out.2.2.2.2⟩)
  have HB34 := Lib.hid hb4
  have HW4 := Lib.hid hw4
  rw [hw4] at hcS hc0
  have k0 : (0 : Int) ≤ (k : Int) := by omega
  have k6 : (k : Int) < 6 := by have := hk6; omega
  clear hU hV hG HCx HCy bbx bby hb4 hw4 hsk HSG kx0 kx1 kx2 kx3 kx4 ky0 ky1 ky2 ky3 ky4 c1 c2 c3 c4 hbd
  go_wp2_with fail
  rw [← HW4.out]
  have HSW := Lib.hid (HSX.out w4.drew HB34.out.drew)
  clear hcS hc0 c0
  refine wp_region_held_drew (S := fun X => X.cell? ⟨W.heap.size, 3, none⟩ = some (.slice (some ⟨g, o, none⟩) 2 c) ∧ X.cell? ⟨g, o, none⟩ = some (.int .i64 x0) ∧ X.cell? ⟨g, o + 1, none⟩ = some (.string x1) ∧ X.cell? ⟨g, o + 2, none⟩ = some (.int .i64 x2) ∧ X.cell? ⟨g, o + 3, none⟩ = some (.slice Yx x3 xc) ∧ X.cell? ⟨g, o + 4, none⟩ = some (.int .i64 x4) ∧ X.cell? ⟨g, o + 5, none⟩ = some (.int .i64 y0) ∧ X.cell? ⟨g, o + 5 + 1, none⟩ = some (.string y1) ∧ X.cell? ⟨g, o + 5 + 2, none⟩ = some (.int .i64 y2) ∧ X.cell? ⟨g, o + 5 + 3, none⟩ = some (.slice Yy y3 yc) ∧ X.cell? ⟨g, o + 5 + 4, none⟩ = some (.int .i64 y4)) (by kernel_rfl) HSW.out (fun hHeld => ?_)
  refine rgT 0 ?_
  try simp only [rgS]
  refine rgT 1 ?_
  try simp only [rgS]
  refine rgT 2 ?_
  try simp only [rgS]
  refine rgT 3 ?_
  try simp only [rgS]
  refine rgT 6 ?_
  try simp only [rgS]
  refine rgT 9 ?_
  try simp only [rgS]
  refine rgT 10 ?_
  try simp only [rgS]
  refine rgT 11 ?_
  try simp only [rgS]
  refine rgT 12 ?_
  try simp only [rgS]
  refine rgO 4 (fun K hK => ?_)
  go_simp
  (with_reducible refine (HCX.out w4.drew (HB3.out.trans (HB34.out.drew.mono HB3.out.size))).mono ?_)
  rintro e w5 ⟨rfl, hb5⟩
  have HB5 := Lib.hid (show Below w3.heap.size w3 w5 from HB34.out.drew.trans (hb5.mono HB34.out.drew.size))
  refine hK.out _ _ (HSX.out _ HB5.out) (fun hH5 => ?_)
  clear hK K hHeld hb5
  try simp only [rgS]
  refine rgT 5 ?_
  try simp only [rgS]
  refine rgT 7 ?_
  try simp only [rgS]
  refine rgT 8 ?_
  try simp only [rgS]
  refine rgO 13 (fun K hK => ?_)
  go_simp
  (with_reducible refine (HCY.out w5 (HB3.out.trans (HB5.out.mono HB3.out.size))).mono ?_)
  rintro e w6 ⟨rfl, hb6⟩
  have HB6 := Lib.hid (HB5.out.trans (hb6.mono HB5.out.size))
  refine hK.out _ _ (HSX.out _ HB6.out) (fun hH6 => ?_)
  clear hK K hH5 hb6
  try simp only [rgS]
  refine rgT 14 ?_
  try simp only [rgS]
  refine rgT 15 ?_
  try simp only [rgS]
  refine wpAnyH_done (by kernel_rfl) ?_ _
  clear hH6
  have HBF := Lib.hid (HB3.out.trans (HB6.out.mono HB3.out.size))
  go_wp2
  go_ret
  rw [HR.out]
  exact ⟨rfl, HBF.out⟩
theorem nodesEs_take : ∀ (l : List Ex) (k : Nat), nodesEs (l.take k) ≤ nodesEs l
  | [], k => by simp
  | x :: r, 0 => by rw [List.take_zero, nodesEs]; omega
  | x :: r, k + 1 => by have := nodesEs_take r k; rw [List.take_succ_cons, nodesEs, nodesEs]; omega
set_option maxRecDepth 100000 in
set_option maxHeartbeats 8000000 in
theorem bare13 {f : Nat} (ih : TextAsk f) {p : Int} {x : Ex} {r : List Ex} (hg : ∀ y ∈ x :: r, goodF f y = true) (hsh : ∀ y ∈ x :: r, Short y) (hn : nodesEs (x :: r) ≤ 1500) : BareAsk (f + 1) (.mk 13 E0 0 (x :: r) p) := by
  intro a ha B W v hB hv
  obtain ⟨A, c, rfl, _, hlc, hc⟩ := hv.open
  obtain ⟨g, o, rfl, hgB, hgl, hre⟩ := hc (List.cons_ne_nil _ _)
  show Calls Tryz.prog 41 #[.agg #[.int .i64 13, .string E0, .int .i64 0, .slice (some ⟨g, o, none⟩) (r.length + 1) c, .int .i64 p], _] W _
  have hlc : r.length + 1 ≤ c ∧ c ≤ 9223372036854775807 := hlc
  have hre : RepEs W (fun k => k < B) g o (x :: r) := hre
  rw [show bareF (f + 1) (.mk 13 E0 0 (x :: r) p) = textF f x 5 ++ [32, 105, 110, 32, 91] ++ joinC (r.map fun e => textF f e 5) ++ [93] from rfl]
  have haB : ¬ (4 : Int) < (a : Int) := by have : a ≤ 4 := ha; omega
  have hnx : ∀ y ∈ x :: r, nodesE y ≤ 1500 := fun y hy => by have := nodes_mem hy; omega
  have hnr : nodesEs r ≤ 1500 := by rw [nodesEs] at hn; omega
  have HIH := Lib.hid (fun (y : Ex) (hy : y ∈ x :: r) (w : World) (v : Value) (hB' : B ≤ w.heap.size) (hv : RepE w (fun k => k < B) y v) => ih y 5 (hg y hy) (hsh y hy) (hnx y hy) B w v hB' hv)
  rw [show ((5 : Nat) : Int) = 5 from rfl] at HIH
  have HTS := Lib.hid (fun (y : Ex) (hy : y ∈ x :: r) => text_size (hg y hy) (hsh y hy) (hnx y hy) 5)
  have HJS : Hid (∀ k, BL 9150000 (joinC ((r.take k).map fun e => textF f e 5))) := Lib.hid (fun k => BL.le (joinC_sum (l := r.take k) (F := fun e => textF f e 5) (fun y hy => text_bl (hg y (List.mem_cons_of_mem _ (List.mem_of_mem_take hy))) (hsh y (List.mem_cons_of_mem _ (List.mem_of_mem_take hy))) 5)) (by have := nodesEs_take r k; omega))
  have HRE := Lib.hid hre
  have HBW := Lib.hid hB
  have HGL := Lib.hid hgl
  obtain ⟨n, hn'⟩ : ∃ n, n = r.length := ⟨_, rfl⟩
  have HN := Lib.hid hn'
  rw [← hn'] at hlc ⊢
  obtain ⟨R, hR⟩ : ∃ R, R = toS (textF f x 5 ++ [32, 105, 110, 32, 91] ++ joinC (r.map fun e => textF f e 5) ++ [93]) := ⟨_, rfl⟩
  rw [← hR]
  have HR0 := Lib.hid hR
  obtain ⟨w1, hw1⟩ : ∃ V, V = W.alloc (.cells #[.int .i64 13, .string E0, .int .i64 0, .slice (some ⟨g, o, none⟩) (n + 1) c, .int .i64 p] 42) := ⟨_, rfl⟩
  have HB1 : Hid (Below W.heap.size W w1) := Lib.hid (by rw [hw1]; exact belowAlloc W _)
  have HE1 : Hid (Blk w1 W.heap.size 42 [.int .i64 13, .string E0, .int .i64 0, .slice (some ⟨g, o, none⟩) (n + 1) c, .int .i64 p]) := Lib.hid (by rw [hw1]; exact heap_alloc_new W _)
  have HBI : Hid (Calls Tryz.prog 75 #[.int .i64 13] w1 fun e w' => e = .returned (.int .i64 4) ∧ w1 = w') := Lib.hid (refBind_any 13 w1)
  have HQ := Lib.hid (refQuoteX_any E0 w1 (by decide))
  obtain ⟨q1, hq1⟩ : ∃ q, q = toS (quoteN (strL E0)).1 := ⟨_, rfl⟩
  obtain ⟨q2, hq2⟩ : ∃ q, q = (quoteN (strL E0)).2 := ⟨_, rfl⟩
  rw [← hq1, ← hq2] at HQ
  have HW1 := Lib.hid hw1
  obtain ⟨c0, c1, c2, c3, c4⟩ := cells5 HE1.out
  have d0 := c0; have d1 := c1; have d2 := c2; have d3 := c3; have d4 := c4
  rw [hw1] at c0 c1 c2 c3 c4
  clear hv hB hc hw1 ha hq1 hq2 hgB ih hg hsh hn hnx hnr hre hR hn' hgl
  go_enter Tryz.func41, Tryz.ntmps41
  go_wp2_with fail
  rw [← HW1.out]
  (with_reducible refine HBI.out.mono ?_)
  rintro e w2 ⟨rfl, rfl⟩
  clear c0 c1 c2 c3 c4
  go_wp2_with fail
  (with_reducible refine HQ.out.mono ?_)
  rintro e w3 ⟨rfl, hb3⟩
  have HB3 := Lib.hid (HB1.out.trans (hb3.mono HB1.out.size))
  have HE3 := Lib.hid (HE1.out.below hb3 HE1.out.lt)
  obtain ⟨c0, c1, c2, c3, c4⟩ := cells5 HE3.out
  clear hb3 d0 d1 d2 d3 d4 HBI HQ
  obtain ⟨x', v, hxk, hrx, hf⟩ := HRE.out.atX 0 (by simp)
  obtain rfl : x = x' := by simpa using hxk
  have HCX := Lib.hid (HIH.out x (by simp) w3 v (Nat.le_trans HBW.out HB3.out.size) (hrx.under HBW.out HB3.out))
  obtain ⟨Y, x3, xc, rfl, hx3, k0, k1, k2, k3, k4⟩ := hrx.cells hf
  rw [Nat.zero_mul, Nat.add_zero] at k0 k1 k2 k3 k4
  obtain ⟨x0, hn0⟩ : ∃ t, t = x.op := ⟨_, rfl⟩
  obtain ⟨x1, hn1⟩ : ∃ t, t = x.text := ⟨_, rfl⟩
  obtain ⟨x2, hn2⟩ : ∃ t, t = x.num := ⟨_, rfl⟩
  obtain ⟨x4, hn4⟩ : ∃ t, t = x.pos := ⟨_, rfl⟩
  rw [← hn0, ← hn1, ← hn2, ← hn4] at HCX
  rw [← hn0] at k0
  rw [← hn1] at k1
  rw [← hn2] at k2
  rw [← hn4] at k4
  clear hn0 hn1 hn2 hn4
  have y0 := (HB3.out.cell (p := ⟨g, o, none⟩) HGL.out).trans k0
  have y1 := (HB3.out.cell (p := ⟨g, o + 1, none⟩) HGL.out).trans k1
  have y2 := (HB3.out.cell (p := ⟨g, o + 2, none⟩) HGL.out).trans k2
  have y3 := (HB3.out.cell (p := ⟨g, o + 3, none⟩) HGL.out).trans k3
  have y4 := (HB3.out.cell (p := ⟨g, o + 4, none⟩) HGL.out).trans k4
  obtain ⟨b0, s0⟩ := HTS.out x (by simp)
  obtain ⟨tx, htx⟩ : ∃ t, t = textF f x 5 := ⟨_, rfl⟩
  rw [← htx] at b0 s0 HCX HR0
  have HB0 := Lib.hid b0
  have HS0 := Lib.hid s0
  obtain ⟨U, hU⟩ : ∃ U, U = toS tx := ⟨_, rfl⟩
  rw [← hU] at s0 HCX
  have HU := Lib.hid hU
  have hT0 : U.size + (⟨#[32, 105, 110, 32, 91]⟩ : ByteArray).size ≤ 9223372036854775807 := by show U.size + 5 ≤ _; omega
  clear hxk hrx hf hx3 k0 k1 k2 k3 k4 htx hU b0
  go_wp2_with fail
  (with_reducible refine HCX.out.mono ?_)
  rintro e w4 ⟨rfl, hb4⟩
  have HB4 := Lib.hid (HB3.out.trans (hb4.mono HB3.out.size))
  have HE4 := Lib.hid (HE3.out.below hb4 HE3.out.lt)
  have HSTART : Hid (U ++ (⟨#[32, 105, 110, 32, 91]⟩ : ByteArray) = toS (tx ++ [32, 105, 110, 32, 91] ++ joinC ((r.take 0).map fun e => textF f e 5))) := Lib.hid (by
    rw [HU.out, show (⟨#[32, 105, 110, 32, 91]⟩ : ByteArray) = toS [32, 105, 110, 32, 91] from rfl, toS_append HB0.out (.of_mem (by decide))]
    simp [joinC])
  clear hb4 c0 c1 c2 c3 c4 y0 y1 y2 y3 y4 HCX
  go_wp2
  go_loopw [7, 8] (fun u i wr => ∃ j : Nat, j ≤ n ∧ i = .int .i64 ((j + 1 : Nat) : Int) ∧ u = .string (toS (tx ++ [32, 105, 110, 32, 91] ++ joinC ((r.take j).map fun e => textF f e 5))) ∧ Below W.heap.size W wr ∧ Blk wr W.heap.size 42 [.int .i64 13, .string E0, .int .i64 0, .slice (some ⟨g, o, none⟩) (n + 1) c, .int .i64 p]) (fun _ i _ => n + 1 - (intOf i).toNat)
  case atStart => exact ⟨0, Nat.zero_le _, rfl, by rw [HSTART.out], HB4.out, HE4.out⟩
  case round =>
    obtain ⟨j, hj, rfl, rfl, hbel, hblk⟩ := hrel
    have HBE := Lib.hid (And.intro hbel hblk)
    have z3 := hblk.cell 3
    simp only [List.getElem?_cons_succ, List.getElem?_cons_zero] at z3
    obtain ⟨jb, jl⟩ := HJS.out j
    obtain ⟨J, hJ⟩ : ∃ J, J = joinC ((r.take j).map fun e => textF f e 5) := ⟨_, rfl⟩
    rw [← hJ] at jb jl ⊢
    have b5 : Bytes [32, 105, 110, 32, 91] := .of_mem (by decide)
    have HJB : Hid (Bytes (tx ++ [32, 105, 110, 32, 91] ++ J)) := Lib.hid ((HB0.out.append b5).append jb)
    have hTs : (toS (tx ++ [32, 105, 110, 32, 91] ++ J)).size ≤ 20000000 := by
      have := HS0.out
      rw [size_toS] at this
      rw [size_toS, List.length_append, List.length_append]; simp only [List.length_cons, List.length_nil]; omega
    obtain ⟨Tt, hTt⟩ : ∃ T, T = toS (tx ++ [32, 105, 110, 32, 91] ++ J) := ⟨_, rfl⟩
    rw [← hTt] at hTs ⊢
    have HTT := Lib.hid hTt
    have HJ := Lib.hid hJ
    clear hTt jb jl b5
    by_cases hlt : j < n
    · have hjl : j < r.length := by rw [← HN.out]; exact hlt
      have i1 : ((j + 1 : Nat) : Int) < ((n + 1 : Nat) : Int) := by omega
      have i2 : (0 : Int) ≤ ((j + 1 : Nat) : Int) := by omega
      obtain ⟨y, v, hyk, hry, hf⟩ := HRE.out.atX (j + 1) (by simpa using hjl)
      have hym : y ∈ x :: r := List.mem_of_getElem? hyk
      have hyk2 : r[j]? = some y := by simpa using hyk
      have HCY := Lib.hid (HIH.out y hym wr v (Nat.le_trans HBW.out hbel.size) (hry.under HBW.out hbel))
      obtain ⟨Y, y3, yc, rfl, hy3, k0, k1, k2, k3, k4⟩ := hry.cells hf
      obtain ⟨b1, s1⟩ := HTS.out y hym
      have HTK : Hid ((r.take (j + 1)).map (fun e => textF f e 5) = (r.take j).map (fun e => textF f e 5) ++ [textF f y 5]) := Lib.hid (by
        rw [List.take_succ_eq_append_getElem hjl, List.map_append]
        rw [List.getElem?_eq_getElem hjl] at hyk2
        injection hyk2 with hyk2
        rw [hyk2]; rfl)
      obtain ⟨y0, hn0⟩ : ∃ t, t = y.op := ⟨_, rfl⟩
      obtain ⟨y1, hn1⟩ : ∃ t, t = y.text := ⟨_, rfl⟩
      obtain ⟨y2, hn2⟩ : ∃ t, t = y.num := ⟨_, rfl⟩
      obtain ⟨y4, hn4⟩ : ∃ t, t = y.pos := ⟨_, rfl⟩
      rw [← hn0, ← hn1, ← hn2, ← hn4] at HCY
      rw [← hn0] at k0
      rw [← hn1] at k1
      rw [← hn2] at k2
      rw [← hn4] at k4
      clear hn0 hn1 hn2 hn4
      have q0 := (hbel.cell (p := ⟨g, o + (j + 1) * 5, none⟩) HGL.out).trans k0
      have q1 := (hbel.cell (p := ⟨g, o + (j + 1) * 5 + 1, none⟩) HGL.out).trans k1
      have q2 := (hbel.cell (p := ⟨g, o + (j + 1) * 5 + 2, none⟩) HGL.out).trans k2
      have q3 := (hbel.cell (p := ⟨g, o + (j + 1) * 5 + 3, none⟩) HGL.out).trans k3
      have q4 := (hbel.cell (p := ⟨g, o + (j + 1) * 5 + 4, none⟩) HGL.out).trans k4
      obtain ⟨ty, hty⟩ : ∃ t, t = textF f y 5 := ⟨_, rfl⟩
      rw [← hty] at b1 s1 HCY HTK
      have HBY := Lib.hid b1
      obtain ⟨V, hV⟩ : ∃ U, U = toS ty := ⟨_, rfl⟩
      rw [← hV] at s1 HCY
      have HV := Lib.hid hV
      clear hyk hyk2 hym hry hf hy3 k0 k1 k2 k3 k4 hty hV b1 hbel hblk hjl
      by_cases hj0 : j = 0
      · have j1 : ¬ (1 : Int) < ((j + 1 : Nat) : Int) := by omega
        have hN1 : Tt.size + V.size ≤ 9223372036854775807 := by omega
        have HNX : Hid (Tt ++ V = toS (tx ++ [32, 105, 110, 32, 91] ++ joinC ((r.take (j + 1)).map fun e => textF f e 5))) := Lib.hid (by
          have hJ0 : J = [] := by rw [HJ.out, hj0]; rfl
          rw [HTK.out, HTT.out, HV.out, toS_append HJB.out HBY.out, hJ0, hj0]
          simp [joinC])
        clear hj0 hJ
        go_wp2_with fail
        (with_reducible refine HCY.out.mono ?_)
        rintro e w5 ⟨rfl, hb5⟩
        have HB5 := Lib.hid (And.intro (HBE.out.1.trans (hb5.mono HBE.out.1.size)) (HBE.out.2.below hb5 HBE.out.2.lt))
        clear hb5 q0 q1 q2 q3 q4 z3
        go_wp2
        go_roundw
        case rel => exact ⟨j + 1, hlt, by go_num, by rw [HNX.out], HB5.out.1, HB5.out.2⟩
        case measure => simp [intOf]; omega
      · have j1 : (1 : Int) < ((j + 1 : Nat) : Int) := by omega
        have hN1 : Tt.size + (⟨#[44, 32]⟩ : ByteArray).size ≤ 9223372036854775807 := by show Tt.size + 2 ≤ _; omega
        have hN2 : (Tt ++ (⟨#[44, 32]⟩ : ByteArray)).size + V.size ≤ 9223372036854775807 := by rw [ByteArray.size_append]; show Tt.size + 2 + V.size ≤ _; omega
        have HNX : Hid (Tt ++ (⟨#[44, 32]⟩ : ByteArray) ++ V = toS (tx ++ [32, 105, 110, 32, 91] ++ joinC ((r.take (j + 1)).map fun e => textF f e 5))) := Lib.hid (by
          have b2 : Bytes [44, 32] := .of_mem (by decide)
          have hne : (r.take j).map (fun e => textF f e 5) ≠ [] := fun e => by
            have := congrArg List.length e
            rw [List.length_map, List.length_take, ← HN.out, List.length_nil] at this
            omega
          rw [HTK.out, HTT.out, HV.out, show (⟨#[44, 32]⟩ : ByteArray) = toS [44, 32] from rfl, toS_append HJB.out b2, toS_append (HJB.out.append b2) HBY.out, joinC_snoc _ _ hne, ← HJ.out]
          simp)
        clear hj0 hJ
        go_wp2_with fail
        (with_reducible refine HCY.out.mono ?_)
        rintro e w5 ⟨rfl, hb5⟩
        have HB5 := Lib.hid (And.intro (HBE.out.1.trans (hb5.mono HBE.out.1.size)) (HBE.out.2.below hb5 HBE.out.2.lt))
        clear hb5 q0 q1 q2 q3 q4 z3
        go_wp2
        go_roundw
        case rel => exact ⟨j + 1, hlt, by go_num, by rw [HNX.out], HB5.out.1, HB5.out.2⟩
        case measure => simp [intOf]; omega
    · obtain rfl : j = n := by omega
      have hge : ¬ ((j + 1 : Nat) : Int) < ((j + 1 : Nat) : Int) := by omega
      have hN1 : Tt.size + (⟨#[93]⟩ : ByteArray).size ≤ 9223372036854775807 := by show Tt.size + 1 ≤ _; omega
      have HR : Hid (R = Tt ++ (⟨#[93]⟩ : ByteArray)) := Lib.hid (by
        have hall : r.take j = r := List.take_of_length_le (by rw [HN.out]; exact Nat.le_refl _)
        rw [HR0.out, HTT.out, show (⟨#[93]⟩ : ByteArray) = toS [93] from rfl, toS_append HJB.out (.of_mem (by decide)), HJ.out, hall])
      clear hJ hbel hblk
      go_wp2
      go_ret
      rw [HR.out]
      exact ⟨rfl, HBE.out.1⟩
theorem bare_any {f : Nat} (ih : TextAsk f) (e : Ex) (hg : goodF (f + 1) e = true) (hs : Short e) (hn : nodesE e ≤ 1500) : BareAsk (f + 1) e := by
  obtain ⟨op, s, n, l, p⟩ := e
  by_cases h5 : op ≤ 5
  · have h := hg
    rw [goodF] at h
    by_cases hr : op < 1 ∨ 14 < op
    · rw [if_pos hr] at h; cases h
    have : op = 1 ∨ op = 2 ∨ op = 3 ∨ op = 4 ∨ op = 5 := by omega
    rcases this with rfl | rfl | rfl | rfl | rfl
    · exact bare1 hg hs
    · exact bare2 hg hs
    · exact bare3 hg hs
    · exact bare4 hg hs
    · exact bare5 hg hs
  · have hp := good_parts h5 hg
    have hsp := hs.parts.2
    have hsp : ∀ x ∈ l, Short x := hsp
    have hnl : nodesEs l ≤ 1500 := by rw [nodesE] at hn; omega
    have hnx : ∀ x ∈ l, nodesE x ≤ 1500 := fun x hx => by have := nodes_mem hx; omega
    have h := hg
    rw [goodF] at h
    by_cases hr : op < 1 ∨ 14 < op
    · rw [if_pos hr] at h; cases h
    rw [if_neg hr, if_neg h5] at h
    have hcond : ¬ (n ≠ 0 ∨ s ≠ E0 ∨ (op = 6 ∧ l.length ≠ 1) ∨ (op ≠ 6 ∧ op ≠ 13 ∧ l.length ≠ 2) ∨ (op = 13 ∧ l.length < 2)) := fun hc => by rw [if_pos hc] at h; cases h
    obtain rfl : n = 0 := Decidable.byContradiction fun hh => hcond (.inl hh)
    obtain rfl : s = E0 := Decidable.byContradiction fun hh => hcond (.inr (.inl hh))
    have all : ∀ x ∈ l, goodF f x = true ∧ Short x ∧ nodesE x ≤ 1500 := fun x hx => ⟨hp x hx, hsp x hx, hnx x hx⟩
    by_cases o6 : op = 6
    · subst o6
      have hl : l.length = 1 := Decidable.byContradiction fun hh => hcond (.inr (.inr (.inl ⟨rfl, hh⟩)))
      match l, hl with
      | [x], _ => exact bare6 ih (all x (by simp))
    by_cases o13 : op = 13
    · subst o13
      match l with
      | [] => exact absurd (.inr (.inr (.inr (.inr ⟨rfl, by decide⟩)))) hcond
      | x :: r => exact bare13 ih hp hsp hnl
    have hl : l.length = 2 := Decidable.byContradiction fun hh => hcond (.inr (.inr (.inr (.inl ⟨o6, o13, hh⟩))))
    match l, hl with
    | [x, y], _ =>
      by_cases o7 : op = 7
      · subst o7; exact bare7 ih (all x (by simp)) (all y (by simp))
      by_cases o8 : op = 8
      · subst o8; exact bare8 ih (all x (by simp)) (all y (by simp))
      obtain ⟨k, hk, ho, hsk, hbl, hbi⟩ := polSigns_is (op := op) (by omega)
      obtain rfl : op = (k : Int) + 9 := by omega
      exact bareS ih (all x (by simp)) (all y (by simp)) hk (by omega) ⟨hsk, hbl⟩ hbi
set_option maxRecDepth 100000 in
set_option maxHeartbeats 2000000 in
theorem text_succ {f : Nat} (ih : TextAsk f) : TextAsk (f + 1) := by
  intro e a hg hs hn B W v hB hv
  have hbare := bare_any ih e hg hs hn
  by_cases hb : bindE e.op < a
  · have hv0 := hv
    obtain ⟨x0, x1, x2, Y, xn, xc, x4, he⟩ := hv.form
    obtain ⟨A, c, he2, _⟩ := hv.open
    rw [he2] at he
    simp only [Value.agg.injEq, Array.mk.injEq, List.cons.injEq, and_true, Value.int.injEq, Value.string.injEq, Value.slice.injEq, true_and] at he
    obtain ⟨rfl, rfl, rfl, ⟨rfl, rfl, rfl⟩, rfl⟩ := he
    have hts := bare_tb (f + 1) e hg hs
    have HC := Lib.hid (fun (w : World) (hw : Below W.heap.size W w) => hbare 1 (by have := (bindE_pos e.op).1; omega) B w v (Nat.le_trans hB hw.size) (hv0.under hB hw))
    rw [show ((1 : Nat) : Int) = 1 from rfl] at HC
    obtain ⟨T, hT⟩ : ∃ T, T = bareF (f + 1) e := ⟨_, rfl⟩
    rw [show textF (f + 1) e a = 40 :: (T ++ [41]) from by unfold textF askedL; rw [if_pos hb, hT]]
    rw [← hT] at HC hts
    have HR : Hid (toS (40 :: (T ++ [41])) = (⟨#[40]⟩ : ByteArray) ++ toS T ++ ⟨#[41]⟩) := Lib.hid (by
      have b1 : Bytes [40] := .of_mem (by decide)
      have b2 : Bytes [41] := .of_mem (by decide)
      rw [show (40 :: (T ++ [41])) = [40] ++ T ++ [41] by simp, ← toS_append (b1.append hts.1) b2, ← toS_append b1 hts.1]
      rfl)
    rw [HR.out]
    obtain ⟨U, hU⟩ : ∃ U, U = toS T := ⟨_, rfl⟩
    have hUs : U.size ≤ 10000000 := by rw [hU, size_toS]; have := hts.2; omega
    rw [← hU] at HC ⊢
    obtain ⟨R, hR⟩ : ∃ R, R = (⟨#[40]⟩ : ByteArray) ++ U ++ ⟨#[41]⟩ := ⟨_, rfl⟩
    rw [← hR]
    have HR0 := Lib.hid hR
    have hT1 : (⟨#[40]⟩ : ByteArray).size + U.size ≤ 9223372036854775807 := by show 1 + U.size ≤ _; omega
    have hT2 : ((⟨#[40]⟩ : ByteArray) ++ U).size + (⟨#[41]⟩ : ByteArray).size ≤ 9223372036854775807 := by rw [ByteArray.size_append]; show 1 + U.size + 1 ≤ _; omega
    rw [he2] at HC ⊢
    obtain ⟨k, hk⟩ : ∃ k, k = bindE e.op := ⟨_, rfl⟩
    have hka : (k : Int) < (a : Int) := by omega
    have HBI := Lib.hid (fun w => refBind_any e.op w)
    rw [← hk] at HBI
    obtain ⟨x0, hx0⟩ : ∃ u, u = e.op := ⟨_, rfl⟩
    obtain ⟨x1, hx1⟩ : ∃ u, u = e.text := ⟨_, rfl⟩
    obtain ⟨x2, hx2⟩ : ∃ u, u = e.num := ⟨_, rfl⟩
    obtain ⟨x3, hx3⟩ : ∃ u, u = e.parts.length := ⟨_, rfl⟩
    obtain ⟨x4, hx4⟩ : ∃ u, u = e.pos := ⟨_, rfl⟩
    rw [← hx0, ← hx1, ← hx2, ← hx3, ← hx4] at HC ⊢
    rw [← hx0] at HBI
    obtain ⟨w1, hw1⟩ : ∃ V, V = W.alloc (.cells #[.int .i64 x0, .string x1, .int .i64 x2, .slice A x3 c, .int .i64 x4] 42) := ⟨_, rfl⟩
    have HB1 : Hid (Below W.heap.size W w1) := Lib.hid (by rw [hw1]; exact belowAlloc W _)
    have HE1 : Hid (Blk w1 W.heap.size 42 [.int .i64 x0, .string x1, .int .i64 x2, .slice A x3 c, .int .i64 x4]) := Lib.hid (by rw [hw1]; exact heap_alloc_new W _)
    have HW1 := Lib.hid hw1
    obtain ⟨c0, c1, c2, c3, c4⟩ := cells5 HE1.out
    have d0 := c0; have d1 := c1; have d2 := c2; have d3 := c3; have d4 := c4
    rw [hw1] at c0 c1 c2 c3 c4
    clear ih hg hs hn hB hv hbare hb hv0 he2 hts hT hU hUs hR hk hx0 hx1 hx2 hx3 hx4 hw1
    go_enter Tryz.func41, Tryz.ntmps41
    go_wp2_with fail
    rw [← HW1.out]
    (with_reducible refine (HBI.out _).mono ?_)
    rintro e' w2 ⟨rfl, rfl⟩
    clear c0 c1 c2 c3 c4
    go_wp2_with fail
    (with_reducible refine (HC.out _ HB1.out).mono ?_)
    rintro e' w3 ⟨rfl, hb3⟩
    have HB3 := Lib.hid (HB1.out.trans (hb3.mono HB1.out.size))
    clear hb3 d0 d1 d2 d3 d4
    go_wp2
    go_ret
    rw [HR0.out]
    exact ⟨rfl, HB3.out⟩
  · rw [show textF (f + 1) e a = bareF (f + 1) e from by unfold textF; exact asked_bare (by omega)]
    exact hbare a (by omega) B W v hB hv
theorem text_any : ∀ f, TextAsk f
  | 0 => fun e a hg => by cases e; cases hg
  | f + 1 => text_succ (text_any f)
end Go.Proofs.YtcjfealalokjaaaGreatDoor
namespace Go.Proofs.YtcjfealalokjaaaGreatDoor
open Go Go.RowKit
theorem goodR_iff {x : RuleM} : goodR x = true ↔ x.scopes.length ≤ 16 ∧ (x.scopes.all fun s => (quoteN (strL s)).2) = true ∧ x.whens.length ≤ 1 ∧ x.whens.all (goodF 200) = true := by
  unfold goodR
  simp
set_option maxRecDepth 100000 in
set_option maxHeartbeats 4000000 in
theorem refRightP_any {B : Nat} {l : List RuleM} {W : World} {v : Value} (hB : B ≤ W.heap.size) (hx : ∀ x ∈ l, LookR x) (hv : RepP W (fun k => k < B) l v) :
    Calls Tryz.prog 17 #[v] W fun e w' => e = .returned (.bool (rightP l)) ∧ Below W.heap.size W w' := by
  obtain ⟨A, c, rfl, hl, hr⟩ := hv
  have HC := Lib.hid hr
  have HBW := Lib.hid hB
  have HLK := Lib.hid hx
  obtain ⟨n, hn⟩ : ∃ n, n = l.length := ⟨_, rfl⟩
  have HN := Lib.hid hn
  rw [← hn] at hl ⊢
  obtain ⟨R, hR⟩ : ∃ R, R = rightP l := ⟨_, rfl⟩
  rw [← hR]
  unfold rightP at hR
  rw [← hn] at hR
  have HR0 := Lib.hid hR
  clear hr hn hB hR hx
  by_cases h16 : 16 < n
  · have c1 : (16 : Int) < (n : Int) := by omega
    have HR : Hid (R = false) := Lib.hid (by rw [HR0.out, decide_eq_false (by omega)]; rfl)
    go_enter Tryz.func17, Tryz.ntmps17
    go_wp2
    go_ret
    rw [HR.out]
    exact ⟨rfl, Below.refl _ _⟩
  have c1 : ¬ (16 : Int) < (n : Int) := by omega
  have HR1 : Hid (R = l.all goodR) := Lib.hid (by rw [HR0.out, decide_eq_true (by omega)]; rfl)
  clear HR0
  go_enter Tryz.func17, Tryz.ntmps17
  go_wp2
  go_loopw [3] (fun v wr => ∃ i : Nat, i ≤ n ∧ v = .int .i64 (i : Int) ∧ (l.take i).all goodR = true ∧ Below W.heap.size W wr) (fun v _ => n - (intOf v).toNat)
  case atStart => exact ⟨0, Nat.zero_le _, rfl, by simp, Below.refl _ _⟩
  case round =>
    obtain ⟨i, hi, rfl, hall, hbel⟩ := hrel
    have HA := Lib.hid hall
    have BB := Lib.hid hbel
    by_cases hlt : i < n
    · have i1 : (i : Int) < (n : Int) := by omega
      have i2 : (0 : Int) ≤ (i : Int) := by omega
      have hil : i < l.length := by rw [← HN.out]; exact hlt
      obtain ⟨g, o, rfl, hgB, hg, hre⟩ := HC.out (fun e => by rw [e] at hil; exact absurd hil (Nat.not_lt_zero _))
      obtain ⟨a0, a1, a2, a3, hrx, k0, k1, k2, k3⟩ := hre i hil
      obtain ⟨vs, vw, e, ⟨SA, cs, rfl, hsn, hsc⟩, ⟨AW, cw, rfl, hwn, hwc⟩⟩ := hrx
      simp only [Value.agg.injEq, Array.mk.injEq, List.cons.injEq, and_true] at e
      obtain ⟨rfl, rfl, rfl, rfl⟩ := e
      obtain ⟨lk1, lk2, lk3, lk4⟩ := HLK.out l[i] (List.getElem_mem hil)
      have HNO : Hid (¬ goodR l[i] = true → R = false) := Lib.hid (fun h => by
        rw [HR1.out, all_take_false goodR l i hil (by simpa using h)])
      have HYES : Hid (goodR l[i] = true → (l.take (i + 1)).all goodR = true) := Lib.hid (fun h => by rw [all_take_succ _ _ _ hil, HA.out, h]; rfl)
      obtain ⟨x, hx⟩ : ∃ x, x = l[i] := ⟨_, rfl⟩
      rw [← hx] at k1 k2 hsn hsc hwn hwc lk1 lk2 lk3 HNO HYES
      obtain ⟨m, hm⟩ : ∃ m, m = x.scopes.length := ⟨_, rfl⟩
      obtain ⟨q, hq⟩ : ∃ q, q = x.whens.length := ⟨_, rfl⟩
      rw [← hm] at k1 hsn
      rw [← hq] at k2 hwn
      have HM := Lib.hid hm
      have HQ := Lib.hid hq
      have HSC := Lib.hid hsc
      have HWC := Lib.hid hwc
      have HL2 := Lib.hid lk2
      have HL3 := Lib.hid lk3
      have HK := Lib.hid (And.intro hg (And.intro k1 k2))
      have z1 : wr.cell? ⟨g, o + i * 4 + 1, none⟩ = some (.slice SA m cs) := (hbel.cell (p := ⟨g, _, none⟩) hg).trans k1
      have z2 : wr.cell? ⟨g, o + i * 4 + 2, none⟩ = some (.slice AW q cw) := (hbel.cell (p := ⟨g, _, none⟩) hg).trans k2
      clear hre hsc hwc k0 k1 k2 k3 hx hm hq hil hall lk1 lk2 lk3 lk4 hbel
      by_cases hm4 : 16 < m
      · have m1 : (16 : Int) < (m : Int) := by omega
        have HR : Hid (R = false) := Lib.hid (HNO.out (fun h => by have := (goodR_iff.1 h).1; rw [← HM.out] at this; omega))
        go_wp2
        go_ret
        rw [HR.out]
        exact ⟨rfl, BB.out⟩
      have m1 : ¬ (16 : Int) < (m : Int) := by omega
      by_cases hq1 : 1 < q
      · have q1 : (1 : Int) < (q : Int) := by omega
        have HR : Hid (R = false) := Lib.hid (HNO.out (fun h => by have := (goodR_iff.1 h).2.2.1; rw [← HQ.out] at this; omega))
        go_wp2
        go_ret
        rw [HR.out]
        exact ⟨rfl, BB.out⟩
      have q1 : ¬ (1 : Int) < (q : Int) := by omega
      have HMQ : Hid (m ≤ 16 ∧ q ≤ 1) := Lib.hid ⟨by omega, by omega⟩
      go_wp2
      clear z1 z2
      go_loopw [4] (fun v wr => ∃ k : Nat, k ≤ m ∧ v = .int .i64 (k : Int) ∧ (x.scopes.take k).all (fun s => (quoteN (strL s)).2) = true ∧ Below W.heap.size W wr) (fun v _ => m - (intOf v).toNat)
      case atStart => exact ⟨0, Nat.zero_le _, rfl, by simp, BB.out⟩
      case round =>
        obtain ⟨k, hk, rfl, hall, hbel⟩ := hrel
        have HAL := Lib.hid hall
        have BB := Lib.hid hbel
        have z1 : wr.cell? ⟨g, o + i * 4 + 1, none⟩ = some (.slice SA m cs) := (hbel.cell (p := ⟨g, _, none⟩) HK.out.1).trans HK.out.2.1
        clear hall
        by_cases hkm : k < m
        · have kl : k < x.scopes.length := by rw [← HM.out]; exact hkm
          have k1 : (k : Int) < (m : Int) := by omega
          have k2 : (0 : Int) ≤ (k : Int) := by omega
          obtain ⟨h, r2, rfl, _, hh, hcs⟩ := HSC.out (fun e => by rw [e] at kl; exact absurd kl (Nat.not_lt_zero _))
          obtain ⟨t, ht, _, l1⟩ := hcs k kl
          have htm : t ∈ x.scopes := List.mem_of_getElem? ht
          rw [List.getElem?_eq_getElem kl] at ht
          injection ht with ht
          have y1 := (hbel.cell (p := ⟨h, r2 + k, none⟩) hh).trans l1
          have HQT := Lib.hid (refQuotedP_any t wr (by have := HL2.out t htm; omega))
          have HST := Lib.hid (all_take_succ (fun s => (quoteN (strL s)).2) x.scopes k kl)
          rw [ht] at HST
          obtain ⟨z, hz⟩ : ∃ z, z = (quoteN (strL t)).2 := ⟨_, rfl⟩
          rw [← hz] at HQT
          have HZ := Lib.hid hz
          have HTM := Lib.hid htm
          clear hcs l1 hbel ht htm hz kl
          go_wp2_with fail
          (with_reducible refine HQT.out.mono ?_)
          rintro e w3 ⟨rfl, hb3⟩
          have BB := Lib.hid (BB.out.trans (hb3.mono BB.out.size))
          clear hb3 y1 z1
          by_cases hzt : z = true
          · subst hzt
            go_wp2
            go_roundw
            case rel => exact ⟨k + 1, hkm, by go_num, by rw [HST.out, HAL.out, ← HZ.out]; rfl, BB.out⟩
            case measure => simp [intOf]; omega
          · obtain rfl : z = false := by simpa using hzt
            have HR : Hid (R = false) := Lib.hid (HNO.out (fun h => by have := List.all_eq_true.1 (goodR_iff.1 h).2.1 t HTM.out; rw [← HZ.out] at this; cases this))
            go_wp2
            go_ret
            rw [HR.out]
            exact ⟨rfl, BB.out⟩
        · obtain rfl : k = m := by omega
          have hge : ¬ (k : Int) < (k : Int) := by omega
          have HSA : Hid (x.scopes.all (fun s => (quoteN (strL s)).2) = true) := Lib.hid (by have := HAL.out; rw [List.take_of_length_le (by rw [HM.out]; exact Nat.le_refl _)] at this; exact this)
          clear hbel
          go_wp2
          clear z1
          go_loopw [5] (fun v wr => ∃ k : Nat, k ≤ q ∧ v = .int .i64 (k : Int) ∧ (x.whens.take k).all (goodF 200) = true ∧ Below W.heap.size W wr) (fun v _ => q - (intOf v).toNat)
          case atStart => exact ⟨0, Nat.zero_le _, rfl, by simp, BB.out⟩
          case round =>
            obtain ⟨k, hk, rfl, hall, hbel⟩ := hrel
            have HAW := Lib.hid hall
            have BB := Lib.hid hbel
            have z2 : wr.cell? ⟨g, o + i * 4 + 2, none⟩ = some (.slice AW q cw) := (hbel.cell (p := ⟨g, _, none⟩) HK.out.1).trans HK.out.2.2
            clear hall
            by_cases hkq : k < q
            · have kl : k < x.whens.length := by rw [← HQ.out]; exact hkq
              have k1 : (k : Int) < (q : Int) := by omega
              have k2 : (0 : Int) ≤ (k : Int) := by omega
              obtain ⟨h, r2, rfl, _, hh, hes⟩ := HWC.out (fun e => by rw [e] at kl; exact absurd kl (Nat.not_lt_zero _))
              obtain ⟨y, v, hyk, hry, hf⟩ := hes.atX k kl
              have hym : y ∈ x.whens := List.mem_of_getElem? hyk
              have HCY := Lib.hid (rgood_any 200 (Nat.le_refl _) y (HL3.out y hym) B wr v (Nat.le_trans HBW.out hbel.size) (hry.under HBW.out hbel))
              rw [show (201 - ((200 : Nat) : Int)) = 1 from rfl] at HCY
              obtain ⟨Y, y3, yc, rfl, hy3, l0, l1, l2, l3, l4⟩ := hry.cells hf
              have HST := Lib.hid (all_take_succ (goodF 200) x.whens k kl)
              rw [List.getElem?_eq_getElem kl] at hyk
              injection hyk with hyk
              rw [hyk] at HST
              obtain ⟨y0, hn0⟩ : ∃ t, t = y.op := ⟨_, rfl⟩
              obtain ⟨y1, hn1⟩ : ∃ t, t = y.text := ⟨_, rfl⟩
              obtain ⟨y2, hn2⟩ : ∃ t, t = y.num := ⟨_, rfl⟩
              obtain ⟨y4, hn4⟩ : ∃ t, t = y.pos := ⟨_, rfl⟩
              rw [← hn0, ← hn1, ← hn2, ← hn4] at HCY
              rw [← hn0] at l0
              rw [← hn1] at l1
              rw [← hn2] at l2
              rw [← hn4] at l4
              have u0 := (hbel.cell (p := ⟨h, r2 + k * 5, none⟩) hh).trans l0
              have u1 := (hbel.cell (p := ⟨h, r2 + k * 5 + 1, none⟩) hh).trans l1
              have u2 := (hbel.cell (p := ⟨h, r2 + k * 5 + 2, none⟩) hh).trans l2
              have u3 := (hbel.cell (p := ⟨h, r2 + k * 5 + 3, none⟩) hh).trans l3
              have u4 := (hbel.cell (p := ⟨h, r2 + k * 5 + 4, none⟩) hh).trans l4
              obtain ⟨z, hz⟩ : ∃ z, z = goodF 200 y := ⟨_, rfl⟩
              rw [← hz] at HCY
              have HZ := Lib.hid hz
              have HTM := Lib.hid hym
              clear hes hry hf hy3 hyk hym l0 l1 l2 l3 l4 hn0 hn1 hn2 hn4 hz hbel kl
              go_wp2_with fail
              (with_reducible refine HCY.out.mono ?_)
              rintro e w3 ⟨rfl, hb3⟩
              have BB := Lib.hid (BB.out.trans (hb3.mono BB.out.size))
              clear hb3 z2 u0 u1 u2 u3 u4
              by_cases hzt : z = true
              · subst hzt
                go_wp2
                go_roundw
                case rel => exact ⟨k + 1, hkq, by go_num, by rw [HST.out, HAW.out, ← HZ.out]; rfl, BB.out⟩
                case measure => simp [intOf]; omega
              · obtain rfl : z = false := by simpa using hzt
                have HR : Hid (R = false) := Lib.hid (HNO.out (fun h => by have := List.all_eq_true.1 (goodR_iff.1 h).2.2.2 y HTM.out; rw [← HZ.out] at this; cases this))
                go_wp2
                go_ret
                rw [HR.out]
                exact ⟨rfl, BB.out⟩
            · obtain rfl : k = q := by omega
              have hge2 : ¬ (k : Int) < (k : Int) := by omega
              have HGR := Lib.hid (HYES.out (goodR_iff.2 ⟨by rw [← HM.out]; exact HMQ.out.1, HSA.out, by rw [← HQ.out]; exact HMQ.out.2, by have := HAW.out; rw [List.take_of_length_le (by rw [HQ.out]; exact Nat.le_refl _)] at this; exact this⟩))
              clear hbel
              go_wp2
              go_roundw
              case rel => exact ⟨i + 1, hlt, by go_num, HGR.out, BB.out⟩
              case measure => simp [intOf]; omega
    · obtain rfl : i = n := by omega
      have hi1 : ¬ (i : Int) < (i : Int) := by omega
      have HR : Hid (R = true) := Lib.hid (by rw [HR1.out, ← HA.out, List.take_of_length_le (by rw [HN.out]; exact Nat.le_refl _)])
      clear hall hbel
      go_wp2
      go_ret
      rw [HR.out]
      exact ⟨rfl, BB.out⟩
end Go.Proofs.YtcjfealalokjaaaGreatDoor
