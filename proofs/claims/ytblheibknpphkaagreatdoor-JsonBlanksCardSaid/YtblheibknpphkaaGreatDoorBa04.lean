/- UtfSmall, JsonSame, JsonSame2, UtfPut, UtfBegin, UtfRef, UtfRefNext: merged. -/
import Derived.WalkLawsBesides
import Derived.WalkSpells
import Derived.Handy
import Derived.RegionTactic
import Derived.BigQuiet
import Derived.Deep.QuietTactic
import Derived.Deep.RegionHeld3
import Derived.StillTailTactics
import Derived.LoopTactic
import Derived.IntWalk
import Derived.Test.YtblheibknpphkaaGreatDoorBa01
set_option linter.all false
namespace Go.Proofs.YtblheibknpphkaaGreatDoor
open Go Go.RowKit
/-- The table of first marks. -/
abbrev Marks (w : World) : Prop := Blk w 2 180 (ints .i64 [0, 0, 192, 224, 240])
theorem Marks.below {w w' : World} (h : Marks w) (hb : Below w.heap.size w w') : Marks w' := Blk.below h hb h.lt
theorem marks_cell {w : World} (h : Marks w) (k : Nat) (hk : k < 5) : w.cell? ⟨2, k, none⟩ = some (.int .i64 (markL k)) := by
  rw [Blk.cell h]
  match k, hk with
  | 0, _ => rfl
  | 1, _ => rfl
  | 2, _ => rfl
  | 3, _ => rfl
  | 4, _ => rfl
/-! ### sizeOf -/
theorem size_facts (n : Int) : ∃ k : Nat, k = (putL n).length ∧ k ≤ 4 ∧ (n < 0 → k = 0) ∧ (1114112 ≤ n → k = 0) ∧ (55296 ≤ n → n < 57344 → k = 0) ∧ (0 ≤ n → n < 128 → k = 1) ∧ (128 ≤ n → n < 2048 → k = 2) ∧ (2048 ≤ n → n < 55296 → k = 3) ∧ (57344 ≤ n → n < 65536 → k = 3) ∧ (65536 ≤ n → n < 1114112 → k = 4) := by
  refine ⟨_, rfl, putL_len n, ?_⟩
  rcases putL_cases n with ⟨h, h'⟩ | ⟨h1, h2, h⟩ | ⟨h1, h2, h⟩ | ⟨h1, h2, h3, h⟩ | ⟨h1, h2, h⟩ <;> rw [h] <;> simp only [List.length_cons, List.length_nil, Nat.zero_add, Nat.reduceAdd] <;> refine ⟨?_, ?_, ?_, ?_, ?_, ?_, ?_, ?_⟩ <;> intros <;> first | trivial | omega
set_option maxHeartbeats 400000 in
theorem sizeOf_any (n : Int) (w : World) :
    Calls Tryz.prog 113 #[.int .i64 n] w fun e w' => e = .returned (.int .i64 (((putL n).length : Nat) : Int)) ∧ w = w' := by
  obtain ⟨k, hk, hf⟩ := size_facts n
  rw [← hk]
  have HF := Lib.hid hf
  clear hk hf
  go_enter Tryz.func113, Tryz.ntmps113
  go_wp2
  all_goals go_ret
  all_goals exact ⟨ret_int (by have := HF.out; omega), rfl⟩
/-! ### tail -/
theorem or_128 (n : Int) (h : 0 ≤ n ∧ n < 64) : bits .or .i64 128 n = 128 + n := or_above 1 n 7 h.1 (by omega) (by decide) (by omega)
theorem tail_any (n : Int) (w : World) (h0 : 0 ≤ n) (h1 : n ≤ 9223372036854775807) :
    Calls Tryz.prog 139 #[.int .i64 n] w fun e w' => e = .returned (.int .u8 (128 + n % 64)) ∧ w = w' := by
  have e1 := and_mask_i64 n 6 (by decide) h0 (by omega)
  replace e1 : bits .and .i64 n 63 = n % 64 := e1
  have e2 := or_128 (n % 64) (by omega)
  go_enter Tryz.func139, Tryz.ntmps139
  go_wp2
  go_ret
  exact ⟨ret_int (by omega), rfl⟩
/-! ### wanted -/
set_option maxHeartbeats 400000 in
theorem wanted_any (c : Int) (w : World) (hm : Marks w) (h0 : 0 ≤ c) (h1 : c ≤ 255) :
    Calls Tryz.prog 135 #[.int .u8 c] w fun e w' => e = .returned (.int .i64 (((wantL c - 1 : Nat) : Int))) ∧ w = w' := by
  have m4 : w.cell? ⟨2, 4, none⟩ = some (.int .i64 240) := marks_cell hm 4 (by decide)
  have m3 : w.cell? ⟨2, 3, none⟩ = some (.int .i64 224) := marks_cell hm 3 (by decide)
  have m2 : w.cell? ⟨2, 2, none⟩ = some (.int .i64 192) := marks_cell hm 2 (by decide)
  have hf : (240 ≤ c → wantL c = 4) ∧ (224 ≤ c → c < 240 → wantL c = 3) ∧ (192 ≤ c → c < 224 → wantL c = 2) ∧ (c < 192 → wantL c = 1) := by
    unfold wantL
    refine ⟨fun h => if_pos h, fun h h' => ?_, fun h h' => ?_, fun h => ?_⟩
    · rw [if_neg (by omega), if_pos h]
    · rw [if_neg (by omega), if_neg (by omega), if_pos h]
    · rw [if_neg (by omega), if_neg (by omega), if_neg (by omega)]
  obtain ⟨k, hk⟩ : ∃ k, k = wantL c := ⟨_, rfl⟩
  rw [← hk] at hf ⊢
  have HF := Lib.hid hf
  clear hk hf hm
  go_enter Tryz.func135, Tryz.ntmps135
  go_wp2
  all_goals go_ret
  all_goals exact ⟨ret_int (by have := HF.out; omega), rfl⟩
end Go.Proofs.YtblheibknpphkaaGreatDoor
namespace Go.Proofs.YtblheibknpphkaaGreatDoor
open Go Go.RowKit
theorem RepJ.open {W : World} {j : J} {v : Value} (h : RepJ W j v) : ∃ vk A c, v = .agg #[.int .i64 j.kind, .int .i64 j.n, .string j.s, .slice A j.l.length c, vk] ∧ j.s.size ≤ 9223372036854775807 ∧ RepK W j.k vk ∧ j.l.length ≤ 9223372036854775807 ∧
    (j.l ≠ [] → ∃ b o, A = some ⟨b, o, none⟩ ∧ b < W.heap.size ∧ RepC W b o j.l) := by
  cases j; rw [RepJ] at h; exact h
/-- The slice of strings, opened. -/
theorem RepK.open {W : World} {k : List ByteArray} {v : Value} (h : RepK W k v) : ∃ A c, v = .slice A k.length c ∧ k.length ≤ 9223372036854775807 ∧ ∀ i (hi : i < k.length), ∃ b o, A = some ⟨b, o, none⟩ ∧ b < W.heap.size ∧ (k[i]).size ≤ 9223372036854775807 ∧ W.cell? ⟨b, o + i, none⟩ = some (.string k[i]) := by
  obtain ⟨A, c, e, hl, hc⟩ := h
  refine ⟨A, c, e, hl, fun i hi => ?_⟩
  obtain ⟨b, o, e1, hlt, hcs⟩ := hc (fun e => by rw [e] at hi; exact absurd hi (Nat.not_lt_zero _))
  obtain ⟨t, h1, h2, h3⟩ := hcs i hi
  rw [List.getElem?_eq_getElem hi] at h1
  obtain rfl := Option.some.inj h1
  exact ⟨b, o, e1, hlt, h2, h3⟩
theorem sameJ_iff {a b : J} : sameJ a b = true ↔ a.kind = b.kind ∧ a.n = b.n ∧ a.s = b.s ∧ a.k = b.k ∧ sameLs a.l b.l = true := by
  cases a; cases b
  simp [sameJ, J.kind, J.n, J.s, J.k, J.l, and_assoc]
theorem sameLs_iff : ∀ {l m : List J}, sameLs l m = true ↔ l.length = m.length ∧ ∀ i (h1 : i < l.length) (h2 : i < m.length), sameJ l[i] m[i] = true
  | [], [] => by simp [sameLs]
  | [], _ :: _ => by simp [sameLs]
  | _ :: _, [] => by simp [sameLs]
  | x :: r, y :: t => by
    rw [sameLs, Bool.and_eq_true, sameLs_iff (l := r) (m := t)]
    constructor
    · rintro ⟨h1, h2, h3⟩
      refine ⟨by simp [h2], fun i hi1 hi2 => ?_⟩
      cases i with
      | zero => exact h1
      | succ i => exact h3 i (by simpa using hi1) (by simpa using hi2)
    · rintro ⟨h1, h2⟩
      exact ⟨h2 0 (by simp) (by simp), by simpa using h1, fun i hi1 hi2 => h2 (i + 1) (by simpa using hi1) (by simpa using hi2)⟩
theorem beq_str {a b : ByteArray} (h : a = b) : (a.toList == b.toList) = true := by rw [eq_toList]; exact decide_eq_true h
theorem beq_str_ne {a b : ByteArray} (h : a ≠ b) : (a.toList == b.toList) = false := by rw [eq_toList]; exact decide_eq_false h
set_option maxRecDepth 100000 in
set_option maxHeartbeats 4000000 in
theorem refSame_ne (a b : J) (va vb : Value) (W : World) (ha : RepJ W a va) (hb : RepJ W b vb) (h : ¬ (a.kind = b.kind ∧ a.n = b.n ∧ a.s = b.s ∧ a.l.length = b.l.length ∧ a.k.length = b.k.length)) :
    Calls Tryz.prog 15 #[va, vb] W fun e w' => e = .returned (.bool (sameJ a b)) ∧ Below W.heap.size W w' := by
  obtain ⟨vk, A, c, rfl, hs, hk, hl, hc⟩ := ha.open
  obtain ⟨vk', A', c', rfl, hs', hk', hl', hc'⟩ := hb.open
  obtain ⟨K, d, rfl, hkl, hkc⟩ := hk.open
  obtain ⟨K', d', rfl, hkl', hkc'⟩ := hk'.open
  have HR : Hid (sameJ a b = false) := Lib.hid (by
    rw [← Bool.not_eq_true, sameJ_iff]
    rintro ⟨h1, h2, h3, h4, h5⟩
    exact h ⟨h1, h2, h3, (sameLs_iff.1 h5).1, by rw [h4]⟩)
  obtain ⟨s, hs1⟩ : ∃ s, s = a.s := ⟨_, rfl⟩
  obtain ⟨t, ht1⟩ : ∃ s, s = b.s := ⟨_, rfl⟩
  obtain ⟨k1, hk1⟩ : ∃ k, k = a.kind := ⟨_, rfl⟩
  obtain ⟨k2, hk2⟩ : ∃ k, k = b.kind := ⟨_, rfl⟩
  obtain ⟨n1, hn1⟩ : ∃ k, k = a.n := ⟨_, rfl⟩
  obtain ⟨n2, hn2⟩ : ∃ k, k = b.n := ⟨_, rfl⟩
  obtain ⟨p1, hp1⟩ : ∃ k, k = a.l.length := ⟨_, rfl⟩
  obtain ⟨p2, hp2⟩ : ∃ k, k = b.l.length := ⟨_, rfl⟩
  obtain ⟨q1, hq1⟩ : ∃ k, k = a.k.length := ⟨_, rfl⟩
  obtain ⟨q2, hq2⟩ : ∃ k, k = b.k.length := ⟨_, rfl⟩
  rw [← hs1, ← ht1, ← hk1, ← hk2, ← hn1, ← hn2, ← hp1, ← hp2, ← hq1, ← hq2] at h
  rw [← hs1, ← hk1, ← hn1, ← hp1, ← hq1, ← ht1, ← hk2, ← hn2, ← hp2, ← hq2]
  clear ha hb hk hk' hkc hkc' hc hc' hs hs' hs1 ht1 hk1 hk2 hn1 hn2 hp1 hp2 hq1 hq2 hl hl' hkl hkl'
  by_cases e1 : k1 = k2
  · have b1 : (k1 == k2) = true := by rw [beq_iff_eq]; exact e1
    have c1 : (k1 != k2) = false := by rw [bne, b1]; rfl
    have E1 := Lib.hid e1
    by_cases e2 : n1 = n2
    · have b2 : (n1 == n2) = true := by rw [beq_iff_eq]; exact e2
      have c2 : (n1 != n2) = false := by rw [bne, b2]; rfl
      have E2 := Lib.hid e2
      by_cases e3 : s = t
      · have b3 := beq_str e3
        have c3 : (s.toList != t.toList) = false := by rw [bne, b3]; rfl
        have E3 := Lib.hid e3
        by_cases e4 : p1 = p2
        · have b4 : ((p1 : Int) == (p2 : Int)) = true := by rw [beq_iff_eq]; omega
          have c4 : ((p1 : Int) != (p2 : Int)) = false := by rw [bne, b4]; rfl
          have e5 : ¬ q1 = q2 := fun e5 => h ⟨e1, e2, e3, e4, e5⟩
          have b5 : ((q1 : Int) == (q2 : Int)) = false := by rw [beq_eq_false_iff_ne]; omega
          have c5 : ((q1 : Int) != (q2 : Int)) = true := by rw [bne, b5]; rfl
          clear e1 e2 e3 e4 e5 h
          go_enter Tryz.func15, Tryz.ntmps15
          go_wp2
          go_ret
          rw [HR.out]
          exact ⟨rfl, ((Below.refl _ _).alloc (Nat.le_refl _) _).alloc (by simp) _⟩
        · have b4 : ((p1 : Int) == (p2 : Int)) = false := by rw [beq_eq_false_iff_ne]; omega
          have c4 : ((p1 : Int) != (p2 : Int)) = true := by rw [bne, b4]; rfl
          clear e1 e2 e3 e4 h
          go_enter Tryz.func15, Tryz.ntmps15
          go_wp2
          go_ret
          rw [HR.out]
          exact ⟨rfl, ((Below.refl _ _).alloc (Nat.le_refl _) _).alloc (by simp) _⟩
      · have b3 := beq_str_ne e3
        have c3 : (s.toList != t.toList) = true := by rw [bne, b3]; rfl
        clear e1 e2 e3 h
        go_enter Tryz.func15, Tryz.ntmps15
        go_wp2
        go_ret
        rw [HR.out]
        exact ⟨rfl, ((Below.refl _ _).alloc (Nat.le_refl _) _).alloc (by simp) _⟩
    · have b2 : (n1 == n2) = false := by rw [beq_eq_false_iff_ne]; exact e2
      have c2 : (n1 != n2) = true := by rw [bne, b2]; rfl
      clear e1 e2 h
      go_enter Tryz.func15, Tryz.ntmps15
      go_wp2
      go_ret
      rw [HR.out]
      exact ⟨rfl, ((Below.refl _ _).alloc (Nat.le_refl _) _).alloc (by simp) _⟩
  · have b1 : (k1 == k2) = false := by rw [beq_eq_false_iff_ne]; exact e1
    have c1 : (k1 != k2) = true := by rw [bne, b1]; rfl
    clear e1 h
    go_enter Tryz.func15, Tryz.ntmps15
    go_wp2
    go_ret
    rw [HR.out]
    exact ⟨rfl, ((Below.refl _ _).alloc (Nat.le_refl _) _).alloc (by simp) _⟩
end Go.Proofs.YtblheibknpphkaaGreatDoor
namespace Go.Proofs.YtblheibknpphkaaGreatDoor
open Go Go.RowKit
set_option maxRecDepth 100000 in
set_option maxHeartbeats 8000000 in
theorem refSame_eq (a : J) (ih : ∀ x ∈ a.l, ∀ (b : J) (va vb : Value) (W : World), RepJ W x va → RepJ W b vb → Calls Tryz.prog 15 #[va, vb] W fun e w' => e = .returned (.bool (sameJ x b)) ∧ Below W.heap.size W w')
    (b : J) (va vb : Value) (W : World) (ha : RepJ W a va) (hb : RepJ W b vb) (h1 : a.kind = b.kind) (h2 : a.n = b.n) (h3 : a.s = b.s) (h4 : a.l.length = b.l.length) (h5 : a.k.length = b.k.length) :
    Calls Tryz.prog 15 #[va, vb] W fun e w' => e = .returned (.bool (sameJ a b)) ∧ Below W.heap.size W w' := by
  obtain ⟨vk, A, c, rfl, hs, hk, hl, hc⟩ := ha.open
  obtain ⟨vk', A', c', rfl, hs', hk', hl', hc'⟩ := hb.open
  obtain ⟨K, d, rfl, hkl, hkc⟩ := hk.open
  obtain ⟨K', d', rfl, hkl', hkc'⟩ := hk'.open
  rw [← h1, ← h2, ← h3, ← h4, ← h5]
  have HSAME : Hid (sameJ a b = true ↔ a.k = b.k ∧ sameLs a.l b.l = true) := Lib.hid (by rw [sameJ_iff]; exact ⟨fun h => h.2.2.2, fun h => ⟨h1, h2, h3, h.1, h.2⟩⟩)
  have HKC := Lib.hid hkc
  have HKC' := Lib.hid hkc'
  have HC := Lib.hid hc
  have HC' := Lib.hid hc'
  have HQ := Lib.hid h5
  have HPP := Lib.hid h4
  have HIH := Lib.hid ih
  obtain ⟨s, hs1⟩ : ∃ s, s = a.s := ⟨_, rfl⟩
  obtain ⟨kd, hk1⟩ : ∃ k, k = a.kind := ⟨_, rfl⟩
  obtain ⟨n, hn1⟩ : ∃ k, k = a.n := ⟨_, rfl⟩
  obtain ⟨p, hp1⟩ : ∃ k, k = a.l.length := ⟨_, rfl⟩
  obtain ⟨q, hq1⟩ : ∃ k, k = a.k.length := ⟨_, rfl⟩
  rw [← hs1, ← hk1, ← hn1, ← hp1, ← hq1]
  rw [← hp1] at hl
  rw [← hq1] at hkl
  have HP := Lib.hid hp1
  have HQ1 := Lib.hid hq1
  have b3 : (s.toList == s.toList) = true := by simp
  clear ha hb hk hk' hkc hkc' hc hc' hs hs' hs1 hk1 hn1 hp1 hq1 hl' hkl' h1 h2 h3 h4 h5 ih
  go_enter Tryz.func15, Tryz.ntmps15
  go_wp2
  have hB2 : Below W.heap.size W ((W.alloc (.cells #[.int .i64 kd, .int .i64 n, .string s, .slice A p c, .slice K q d] 26)).alloc (.cells #[.int .i64 kd, .int .i64 n, .string s, .slice A' p c', .slice K' q d'] 26)) := ((Below.refl _ _).alloc (Nat.le_refl _) _).alloc (by simp) _
  have hx1 : ((W.alloc (.cells #[.int .i64 kd, .int .i64 n, .string s, .slice A p c, .slice K q d] 26)).alloc (.cells #[.int .i64 kd, .int .i64 n, .string s, .slice A' p c', .slice K' q d'] 26)).cell? ⟨W.heap.size, 3, none⟩ = some (.slice A p c) := by simp
  have hx2 : ((W.alloc (.cells #[.int .i64 kd, .int .i64 n, .string s, .slice A p c, .slice K q d] 26)).alloc (.cells #[.int .i64 kd, .int .i64 n, .string s, .slice A' p c', .slice K' q d'] 26)).cell? ⟨W.heap.size, 4, none⟩ = some (.slice K q d) := by simp
  have hx3 : ((W.alloc (.cells #[.int .i64 kd, .int .i64 n, .string s, .slice A p c, .slice K q d] 26)).alloc (.cells #[.int .i64 kd, .int .i64 n, .string s, .slice A' p c', .slice K' q d'] 26)).cell? ⟨W.heap.size + 1, 3, none⟩ = some (.slice A' p c') := by simp
  have hx4 : ((W.alloc (.cells #[.int .i64 kd, .int .i64 n, .string s, .slice A p c, .slice K q d] 26)).alloc (.cells #[.int .i64 kd, .int .i64 n, .string s, .slice A' p c', .slice K' q d'] 26)).cell? ⟨W.heap.size + 1, 4, none⟩ = some (.slice K' q d') := by simp
  obtain ⟨w2, hw2⟩ : ∃ x, x = ((W.alloc (.cells #[.int .i64 kd, .int .i64 n, .string s, .slice A p c, .slice K q d] 26)).alloc (.cells #[.int .i64 kd, .int .i64 n, .string s, .slice A' p c', .slice K' q d'] 26)) := ⟨_, rfl⟩
  rw [← hw2] at hB2 hx1 hx2 hx3 hx4 ⊢
  have HX := Lib.hid (And.intro hx1 (And.intro hx2 (And.intro hx3 hx4)))
  have HB2 := Lib.hid hB2
  clear hw2 hx1 hx2 hx3 hx4 hB2
  go_loopw [5] (fun i wr => ∃ j : Nat, j ≤ q ∧ i = .int .i64 (j : Int) ∧ (∀ x, x < j → a.k[x]? = b.k[x]?) ∧ Below w2.heap.size w2 wr) (fun i _ => q - (intOf i).toNat)
  case atStart => exact ⟨0, by omega, rfl, fun x hx => absurd hx (Nat.not_lt_zero _), Below.refl _ _⟩
  case round =>
    obtain ⟨j, hj, rfl, hall, hbel⟩ := hrel
    have HA := Lib.hid hall
    have HBE := Lib.hid hbel
    have y2 := (hbel.cell (p := ⟨W.heap.size, 4, none⟩) (lt_of_cell HX.out.2.1)).trans HX.out.2.1
    have y4 := (hbel.cell (p := ⟨W.heap.size + 1, 4, none⟩) (lt_of_cell HX.out.2.2.2)).trans HX.out.2.2.2
    clear hall hbel
    by_cases hlt : j < q
    · obtain ⟨g, o, rfl, hg, hz, hcell⟩ := HKC.out j (by rw [← HQ1.out]; exact hlt)
      obtain ⟨g', o', rfl, hg', hz', hcell'⟩ := HKC'.out j (by rw [← HQ.out, ← HQ1.out]; exact hlt)
      have hbw := HB2.out.trans (HBE.out.mono HB2.out.size)
      have z1 := (hbw.cell (p := ⟨g, o + j, none⟩) hg).trans hcell
      have z2 := (hbw.cell (p := ⟨g', o' + j, none⟩) hg').trans hcell'
      have HE : Hid (a.k[j]? = b.k[j]? ↔ a.k[j]'(by rw [← HQ1.out]; exact hlt) = b.k[j]'(by rw [← HQ.out, ← HQ1.out]; exact hlt)) := Lib.hid (by
        rw [List.getElem?_eq_getElem (by rw [← HQ1.out]; exact hlt), List.getElem?_eq_getElem (by rw [← HQ.out, ← HQ1.out]; exact hlt)]
        exact ⟨fun h => Option.some.inj h, fun h => by rw [h]⟩)
      obtain ⟨t1, ht1⟩ : ∃ t, t = a.k[j]'(by rw [← HQ1.out]; exact hlt) := ⟨_, rfl⟩
      obtain ⟨t2, ht2⟩ : ∃ t, t = b.k[j]'(by rw [← HQ.out, ← HQ1.out]; exact hlt) := ⟨_, rfl⟩
      rw [← ht1] at z1 HE
      rw [← ht2] at z2 HE
      clear hcell hcell' hz hz' ht1 ht2 hbw
      by_cases he : t1 = t2
      · have b4 := beq_str he
        have c4 : (t1.toList != t2.toList) = false := by rw [bne, b4]; rfl
        have HEE := Lib.hid (HE.out.2 he)
        clear he
        go_wp2
        go_quiet (fail)
        go_wp2
        go_roundw
        case rel => exact ⟨j + 1, by omega, by go_num, fun x hx => by
          rcases Nat.lt_or_ge x j with h | h
          · exact HA.out x h
          · obtain rfl : x = j := by omega
            exact HEE.out, below_drewN HBE.out _⟩
        case measure => simp [intOf]; omega
      · have b4 := beq_str_ne he
        have c4 : (t1.toList != t2.toList) = true := by rw [bne, b4]; rfl
        have HR : Hid (sameJ a b = false) := Lib.hid (by
          rw [← Bool.not_eq_true, HSAME.out]
          rintro ⟨h, _⟩
          exact he (HE.out.1 (by rw [h])))
        clear he
        go_wp2
        go_quiet (fail)
        go_wp2
        go_ret
        rw [HR.out]
        exact ⟨rfl, HB2.out.trans (below_drewN (HBE.out.mono HB2.out.size) _)⟩
    · obtain rfl : j = q := by omega
      have HKK : Hid (a.k = b.k) := Lib.hid (List.ext_getElem? fun x => by
        rcases Nat.lt_or_ge x j with h | h
        · exact HA.out x h
        · rw [List.getElem?_eq_none (by rw [← HQ1.out]; exact h), List.getElem?_eq_none (by rw [← HQ.out, ← HQ1.out]; exact h)])
      have hge : ¬ (j : Int) < (j : Int) := by omega
      go_wp2
      go_loopw [6] (fun i wq => ∃ m : Nat, m ≤ p ∧ i = .int .i64 (m : Int) ∧ (∀ x (h1 : x < a.l.length) (h2 : x < b.l.length), x < m → sameJ a.l[x] b.l[x] = true) ∧ Below w2.heap.size w2 wq) (fun i _ => p - (intOf i).toNat)
      case atStart => exact ⟨0, by omega, rfl, fun x _ _ hx => absurd hx (Nat.not_lt_zero _), HBE.out⟩
      case round =>
        obtain ⟨m, hm, rfl, hall, hbel⟩ := hrel
        have HA2 := Lib.hid hall
        have HBE2 := Lib.hid hbel
        have y1 := (hbel.cell (p := ⟨W.heap.size, 3, none⟩) (lt_of_cell HX.out.1)).trans HX.out.1
        have y3 := (hbel.cell (p := ⟨W.heap.size + 1, 3, none⟩) (lt_of_cell HX.out.2.2.1)).trans HX.out.2.2.1
        clear hall hbel y2 y4
        by_cases hlt : m < p
        · have hm1 : m < a.l.length := by rw [← HP.out]; exact hlt
          have hm2 : m < b.l.length := by rw [← HPP.out]; exact hm1
          obtain ⟨g, o, rfl, hg, hrep⟩ := HC.out (fun e => by rw [e] at hm1; exact absurd hm1 (Nat.not_lt_zero _))
          obtain ⟨g', o', rfl, hg', hrep'⟩ := HC'.out (fun e => by rw [e] at hm2; exact absurd hm2 (Nat.not_lt_zero _))
          obtain ⟨v1, hr1, hf1⟩ := hrep.at m hm1
          obtain ⟨v2, hr2, hf2⟩ := hrep'.at m hm2
          have hbw := HB2.out.trans (HBE2.out.mono HB2.out.size)
          have HCALL := Lib.hid (fun (w' : World) (hb : Below W.heap.size W w') => HIH.out a.l[m] (List.getElem_mem hm1) b.l[m] v1 v2 w' (RepJ.below hb _ _ hr1) (RepJ.below hb _ _ hr2))
          obtain ⟨a0, a1, a2, a3, a4, rfl, z0, z1, z2, z3, z4⟩ := hf1.below hg hbw
          obtain ⟨c0, c1, c2, c3, c4, rfl, u0, u1, u2, u3, u4⟩ := hf2.below hg' hbw
          obtain ⟨f, hff⟩ : ∃ f, f = sameJ a.l[m] b.l[m] := ⟨_, rfl⟩
          rw [← hff] at HCALL
          have HFF := Lib.hid hff
          have HBW := Lib.hid hbw
          clear hrep hrep' hr1 hr2 hf1 hf2 hbw hff
          go_wp2
          have w0 : (0 : Int) ≤ (m : Int) := by omega
          have w1 : (m : Int) < (p : Int) := by omega
          go_region_held3 (fun w' => w'.cell? ⟨W.heap.size, 3, none⟩ = some (.slice (some ⟨g, o, none⟩) p c) ∧ w'.cell? ⟨W.heap.size + 1, 3, none⟩ = some (.slice (some ⟨g', o', none⟩) p c') ∧ w'.cell? ⟨g, o + m * 5, none⟩ = some a0 ∧ w'.cell? ⟨g, o + m * 5 + 1, none⟩ = some a1 ∧ w'.cell? ⟨g, o + m * 5 + 2, none⟩ = some a2 ∧ w'.cell? ⟨g, o + m * 5 + 3, none⟩ = some a3 ∧ w'.cell? ⟨g, o + m * 5 + 4, none⟩ = some a4
              ∧ w'.cell? ⟨g', o' + m * 5, none⟩ = some c0 ∧ w'.cell? ⟨g', o' + m * 5 + 1, none⟩ = some c1 ∧ w'.cell? ⟨g', o' + m * 5 + 2, none⟩ = some c2 ∧ w'.cell? ⟨g', o' + m * 5 + 3, none⟩ = some c3 ∧ w'.cell? ⟨g', o' + m * 5 + 4, none⟩ = some c4)
            (first | go_keep | exact ⟨(hb.cell (lt_of_cell y1)).trans y1, (hb.cell (lt_of_cell y3)).trans y3, (hb.cell (lt_of_cell z0)).trans z0, (hb.cell (lt_of_cell z1)).trans z1, (hb.cell (lt_of_cell z2)).trans z2, (hb.cell (lt_of_cell z3)).trans z3, (hb.cell (lt_of_cell z4)).trans z4, (hb.cell (lt_of_cell u0)).trans u0, (hb.cell (lt_of_cell u1)).trans u1, (hb.cell (lt_of_cell u2)).trans u2, (hb.cell (lt_of_cell u3)).trans u3, (hb.cell (lt_of_cell u4)).trans u4⟩)
            (first | (go_at_call 15; refine (HCALL.out _ (HBW.out.drew)).mono ?_; rintro e w' ⟨rfl, hb⟩))
          have HB3 := Lib.hid ((HBE2.out.drew).trans (hb.mono HBE2.out.size))
          clear hb
          by_cases hf : f = true
          · obtain rfl := hf
            go_wp2
            go_roundw
            case rel => exact ⟨m + 1, by omega, by go_num, fun x h1 h2 hx => by
              rcases Nat.lt_or_ge x m with h | h
              · exact HA2.out x h1 h2 h
              · obtain rfl : x = m := by omega
                exact HFF.out.symm, HB3.out⟩
            case measure => simp [intOf]; omega
          · obtain rfl : f = false := by simpa using hf
            have HR : Hid (sameJ a b = false) := Lib.hid (by
              rw [← Bool.not_eq_true, HSAME.out]
              rintro ⟨_, h⟩
              rw [(sameLs_iff.1 h).2 m hm1 hm2] at HFF
              exact absurd HFF.out (by decide))
            go_wp2
            go_ret
            rw [HR.out]
            exact ⟨rfl, HB2.out.trans (HB3.out.mono HB2.out.size)⟩
        · obtain rfl : m = p := by omega
          have HR : Hid (sameJ a b = true) := Lib.hid (by
            rw [HSAME.out]
            exact ⟨HKK.out, sameLs_iff.2 ⟨HPP.out, fun x h1 h2 => HA2.out x h1 h2 (by rw [HP.out]; exact h1)⟩⟩)
          have hge2 : ¬ (m : Int) < (m : Int) := by omega
          go_wp2
          go_ret
          rw [HR.out]
          exact ⟨rfl, HB2.out.trans (HBE2.out.mono HB2.out.size)⟩
theorem refSame_any (a : J) : ∀ (b : J) (va vb : Value) (W : World), RepJ W a va → RepJ W b vb → Calls Tryz.prog 15 #[va, vb] W fun e w' => e = .returned (.bool (sameJ a b)) ∧ Below W.heap.size W w' := by
  induction a using J.ind with
  | h kind n s l k ih =>
    intro b va vb W ha hb
    by_cases h : (J.mk kind n s l k).kind = b.kind ∧ (J.mk kind n s l k).n = b.n ∧ (J.mk kind n s l k).s = b.s ∧ (J.mk kind n s l k).l.length = b.l.length ∧ (J.mk kind n s l k).k.length = b.k.length
    · obtain ⟨h1, h2, h3, h4, h5⟩ := h
      exact refSame_eq (J.mk kind n s l k) ih b va vb W ha hb h1 h2 h3 h4 h5
    · exact refSame_ne _ b va vb W ha hb h
end Go.Proofs.YtblheibknpphkaaGreatDoor
namespace Go.Proofs.YtblheibknpphkaaGreatDoor
open Go Go.RowKit
/-- A letter's bytes, with 0 behind them. -/
def spL (n : Int) : List Int := putL n ++ List.replicate (4 - (putL n).length) 0
theorem spL_one {n : Int} (h : 0 ≤ n) (h1 : n < 128) : spL n = [n, 0, 0, 0] := by unfold spL; rw [putL_one h h1]; rfl
theorem spL_two {n : Int} (h : 128 ≤ n) (h1 : n < 2048) : spL n = [192 + n / 64, 128 + n % 64, 0, 0] := by unfold spL; rw [putL_two h h1]; rfl
theorem spL_three {n : Int} (h : 2048 ≤ n) (h1 : n < 65536) (h2 : n < 55296 ∨ 57343 < n) : spL n = [224 + n / 4096, 128 + n / 64 % 64, 128 + n % 64, 0] := by unfold spL; rw [putL_three h h1 h2]; rfl
theorem spL_four {n : Int} (h : 65536 ≤ n) (h1 : n ≤ 1114111) : spL n = [240 + n / 262144, 128 + n / 4096 % 64, 128 + n / 64 % 64, 128 + n % 64] := by unfold spL; rw [putL_four h h1]; rfl
theorem spL_none {n : Int} (h : n < 0 ∨ 1114111 < n ∨ (55296 ≤ n ∧ n ≤ 57343)) : spL n = [0, 0, 0, 0] := by unfold spL; rw [putL_none h]; rfl
theorem or_0 (x : Int) (h : 0 ≤ x ∧ x < 256) : bits .or .i64 0 x = x := by
  have := or_above 0 x 8 h.1 (by omega) (by decide) (by omega)
  simpa using this
theorem or_192 (x : Int) (h : 0 ≤ x ∧ x < 64) : bits .or .i64 192 x = 192 + x := or_above 3 x 6 h.1 (by omega) (by decide) (by omega)
theorem or_224 (x : Int) (h : 0 ≤ x ∧ x < 32) : bits .or .i64 224 x = 224 + x := or_above 7 x 5 h.1 (by omega) (by decide) (by omega)
theorem or_240 (x : Int) (h : 0 ≤ x ∧ x < 16) : bits .or .i64 240 x = 240 + x := or_above 15 x 4 h.1 (by omega) (by decide) (by omega)
/-- A cell of the row of four. -/
abbrev fourB (a b c d : Int) : Array Value := #[.int .u8 a, .int .u8 b, .int .u8 c, .int .u8 d]
theorem sizeOf_is (n : Int) (k : Nat) (h : (putL n).length = k) (W : World) : Calls Tryz.prog 113 #[.int .i64 n] W fun e w' => e = .returned (.int .i64 (k : Int)) ∧ W = w' := by
  have := sizeOf_any n W
  rw [h] at this
  exact this
set_option maxHeartbeats 400000 in
theorem spell_none (n : Int) (w : World) (h : putL n = []) :
    Calls Tryz.prog 137 #[.int .i64 n] w fun e w' => e = .returned (.agg (fourB 0 0 0 0)) ∧ Below w.heap.size w w' := by
  have HS := Lib.hid (sizeOf_is n 0 (by rw [h]; rfl))
  clear h
  go_enter Tryz.func137, Tryz.ntmps137
  go_wp2_with (go_at_call 113; refine (HS.out _).mono ?_; rintro e w' ⟨rfl, rfl⟩)
  exact bodyPost_ret (v := .agg (fourB 0 0 0 0)) (by simp [results, Tryz.results137, go_sem]) rfl ⟨rfl, ((Below.refl _ _).alloc (Nat.le_refl _) _).alloc (by simp) _⟩
theorem ret_four {a b c d a' b' c' d' : Int} (h1 : a = a') (h2 : b = b') (h3 : c = c') (h4 : d = d') : Ending.returned (.agg (fourB a b c d)) = .returned (.agg (fourB a' b' c' d')) := by rw [h1, h2, h3, h4]
set_option maxHeartbeats 400000 in
theorem spell_one (n : Int) (w : World) (hm : Marks w) (h0 : 0 ≤ n) (h1 : n < 128) :
    Calls Tryz.prog 137 #[.int .i64 n] w fun e w' => e = .returned (.agg (fourB n 0 0 0)) ∧ Below w.heap.size w w' := by
  have HS := Lib.hid (sizeOf_is n 1 (by rw [putL_one h0 h1]; rfl))
  have m1 : w.cell? ⟨2, 1, none⟩ = some (.int .i64 0) := marks_cell hm 1 (by decide)
  have e1 := or_0 n (by omega)
  have hlt := hm.lt
  clear hm
  go_enter Tryz.func137, Tryz.ntmps137
  go_wp2_with (first | (go_at_call 113; refine (HS.out _).mono ?_; rintro e w' ⟨rfl, rfl⟩) | (go_at_call 139; refine (tail_any _ _ (by omega) (by omega)).mono ?_; rintro e w' ⟨rfl, rfl⟩))
  refine bodyPost_ret (v := .agg (fourB n 0 0 0)) (by simp [results, Tryz.results137, go_sem]) rfl ⟨?_, ((Below.refl _ _).alloc (Nat.le_refl _) _).alloc (by simp) _⟩
  exact ret_four (by omega) (by omega) (by omega) (by omega)
set_option maxHeartbeats 400000 in
theorem spell_two (n : Int) (w : World) (hm : Marks w) (h0 : 128 ≤ n) (h1 : n < 2048) :
    Calls Tryz.prog 137 #[.int .i64 n] w fun e w' => e = .returned (.agg (fourB (192 + n / 64) (128 + n % 64) 0 0)) ∧ Below w.heap.size w w' := by
  have HS := Lib.hid (sizeOf_is n 2 (by rw [putL_two h0 h1]; rfl))
  have m1 : w.cell? ⟨2, 2, none⟩ = some (.int .i64 192) := marks_cell hm 2 (by decide)
  have e1 := or_192 (n / 64) (by omega)
  have hlt := hm.lt
  clear hm
  go_enter Tryz.func137, Tryz.ntmps137
  go_wp2_with (first | (go_at_call 113; refine (HS.out _).mono ?_; rintro e w' ⟨rfl, rfl⟩) | (go_at_call 139; refine (tail_any _ _ (by omega) (by omega)).mono ?_; rintro e w' ⟨rfl, rfl⟩))
  refine bodyPost_ret (v := .agg (fourB (192 + n / 64) (128 + n % 64) 0 0)) (by simp [results, Tryz.results137, go_sem]) rfl ⟨?_, ((Below.refl _ _).alloc (Nat.le_refl _) _).alloc (by simp) _⟩
  exact ret_four (by omega) (by omega) (by omega) (by omega)
set_option maxHeartbeats 400000 in
theorem spell_three (n : Int) (w : World) (hm : Marks w) (h0 : 2048 ≤ n) (h1 : n < 65536) (h2 : n < 55296 ∨ 57343 < n) :
    Calls Tryz.prog 137 #[.int .i64 n] w fun e w' => e = .returned (.agg (fourB (224 + n / 4096) (128 + n / 64 % 64) (128 + n % 64) 0)) ∧ Below w.heap.size w w' := by
  have H2 := Lib.hid h2
  have HS := Lib.hid (sizeOf_is n 3 (by rw [putL_three h0 h1 h2]; rfl))
  have m1 : w.cell? ⟨2, 3, none⟩ = some (.int .i64 224) := marks_cell hm 3 (by decide)
  have e1 := or_224 (n / 64 / 64) (by omega)
  clear h2
  have hlt := hm.lt
  clear hm
  go_enter Tryz.func137, Tryz.ntmps137
  go_wp2_with (first | (go_at_call 113; refine (HS.out _).mono ?_; rintro e w' ⟨rfl, rfl⟩) | (go_at_call 139; refine (tail_any _ _ (by omega) (by omega)).mono ?_; rintro e w' ⟨rfl, rfl⟩))
  refine bodyPost_ret (v := .agg (fourB (224 + n / 64 / 64) (128 + n / 64 % 64) (128 + n % 64) 0)) (by simp [results, Tryz.results137, go_sem]) rfl ⟨?_, ((Below.refl _ _).alloc (Nat.le_refl _) _).alloc (by simp) _⟩
  exact ret_four (by omega) (by omega) (by omega) (by omega)
set_option maxHeartbeats 400000 in
theorem spell_four (n : Int) (w : World) (hm : Marks w) (h0 : 65536 ≤ n) (h1 : n ≤ 1114111) :
    Calls Tryz.prog 137 #[.int .i64 n] w fun e w' => e = .returned (.agg (fourB (240 + n / 262144) (128 + n / 4096 % 64) (128 + n / 64 % 64) (128 + n % 64))) ∧ Below w.heap.size w w' := by
  have HS := Lib.hid (sizeOf_is n 4 (by rw [putL_four h0 h1]; rfl))
  have m1 : w.cell? ⟨2, 4, none⟩ = some (.int .i64 240) := marks_cell hm 4 (by decide)
  have e1 := or_240 (n / 64 / 64 / 64) (by omega)
  have hlt := hm.lt
  clear hm
  go_enter Tryz.func137, Tryz.ntmps137
  go_wp2_with (first | (go_at_call 113; refine (HS.out _).mono ?_; rintro e w' ⟨rfl, rfl⟩) | (go_at_call 139; refine (tail_any _ _ (by omega) (by omega)).mono ?_; rintro e w' ⟨rfl, rfl⟩))
  refine bodyPost_ret (v := .agg (fourB (240 + n / 64 / 64 / 64) (128 + n / 64 / 64 % 64) (128 + n / 64 % 64) (128 + n % 64))) (by simp [results, Tryz.results137, go_sem]) rfl ⟨?_, ((Below.refl _ _).alloc (Nat.le_refl _) _).alloc (by simp) _⟩
  exact ret_four (by omega) (by omega) (by omega) (by omega)
theorem spell_any (n : Int) (w : World) (hm : Marks w) :
    Calls Tryz.prog 137 #[.int .i64 n] w fun e w' => e = .returned (.agg (ints .u8 (spL n)).toArray) ∧ Below w.heap.size w w' := by
  rcases putL_cases n with ⟨h, h'⟩ | ⟨h1, h2, h⟩ | ⟨h1, h2, h⟩ | ⟨h1, h2, h3, h⟩ | ⟨h1, h2, h⟩
  · rw [spL_none h']; exact spell_none n w h
  · rw [spL_one h1 h2]; exact spell_one n w hm h1 h2
  · rw [spL_two h1 h2]; exact spell_two n w hm h1 h2
  · rw [spL_three h1 h2 h3]; exact spell_three n w hm h1 h2 h3
  · rw [spL_four h1 h2]; exact spell_four n w hm h1 h2
/-! ### Put -/
theorem length_spL (n : Int) : (spL n).length = 4 := by
  have := putL_len n
  unfold spL
  rw [List.length_append, List.length_replicate]; omega
theorem spL_take (n : Int) : (spL n).take (putL n).length = putL n := by simp [spL]
set_option maxHeartbeats 400000 in
theorem put_any (n : Int) (w : World) (hm : Marks w) :
    Calls Tryz.prog 132 #[.int .i64 n] w fun e w' => e = .returned (.string (toS (putL n))) ∧ Below w.heap.size w w' := by
  have hlen := putL_len n
  have HSZ := Lib.hid (fun W : World => sizeOf_any n W)
  have HSP := Lib.hid (spell_any n w hm)
  obtain ⟨a, b, c, d, h4⟩ : ∃ a b c d, spL n = [a, b, c, d] := by
    have := length_spL n
    match h : spL n, this with
    | [a, b, c, d], _ => exact ⟨a, b, c, d, rfl⟩
  have hcv : ∀ W : World, (convert 31 9 (.slice (some ⟨W.heap.size, 0, none⟩) (putL n).length 4)).run Tryz.prog (W.alloc (.cells #[.int .u8 a, .int .u8 b, .int .u8 c, .int .u8 d] 181)) = .ok (.string (toS (putL n))) (W.alloc (.cells #[.int .u8 a, .int .u8 b, .int .u8 c, .int .u8 d] 181)) := fun W =>
    conv_str _ (putL n) _ 4 _ rfl (by
      have := (Lies.whole (w := W.alloc (.cells #[.int .u8 a, .int .u8 b, .int .u8 c, .int .u8 d] 181)) (b := W.heap.size) (t := 181) (xs := [a, b, c, d]) (heap_alloc_new W _)).take (putL n).length
      rw [← h4, spL_take] at this
      exact this)
  have hsl := fun (g : Nat) => run_sliceAt_to (P := Tryz.prog) 181 5 4 Tryz.underlying181 (by kernel_rfl) g 0 (putL n).length (by decide) hlen .i64
  obtain ⟨k, hk⟩ : ∃ k, k = (putL n).length := ⟨_, rfl⟩
  rw [← hk] at hcv hsl HSZ hlen
  obtain ⟨S, hS⟩ : ∃ S, S = toS (putL n) := ⟨_, rfl⟩
  rw [← hS] at hcv ⊢
  rw [h4] at HSP
  clear hk hS hm h4
  go_enter Tryz.func132, Tryz.ntmps132
  go_wp2_with (first | (go_at_call 113; refine (HSZ.out _).mono ?_; rintro e w' ⟨rfl, rfl⟩) | (go_at_call 137; refine HSP.out.mono ?_; rintro e w1 ⟨rfl, hb⟩; have HB := Lib.hid hb; clear hb; simp only [ints, List.map_cons, List.map_nil]))
  go_ret
  exact ⟨rfl, HB.out.alloc HB.out.size _⟩
end Go.Proofs.YtblheibknpphkaaGreatDoor
namespace Go.Proofs.YtblheibknpphkaaGreatDoor
open Go Go.RowKit
theorem accL_bd (c0 : Int) (l : List Int) (h : 0 ≤ c0 ∧ c0 ≤ 255) : ∀ i, 0 ≤ accL c0 l i ∧ accL c0 l i < 256 * 64 ^ i
  | 0 => by show 0 ≤ c0 ∧ c0 < 256 * 64 ^ 0; omega
  | i + 1 => by
    have := accL_bd c0 l h i
    rw [accL, Int.pow_succ]
    omega
theorem marksub_bd (c : Int) (h : 0 ≤ c ∧ c ≤ 255) : 0 ≤ c - markL (wantL c) ∧ c - markL (wantL c) ≤ 255 := by
  unfold wantL
  split
  · show 0 ≤ c - 240 ∧ _ ≤ _; unfold markL; simp; omega
  · split
    · show 0 ≤ c - 224 ∧ _ ≤ _; unfold markL; simp; omega
    · split
      · show 0 ≤ c - 192 ∧ _ ≤ _; unfold markL; simp; omega
      · show 0 ≤ c - 0 ∧ _ ≤ _; unfold markL; simp; omega
theorem begin_empty (w : World) :
    Calls Tryz.prog 127 #[.string ⟨#[]⟩] w fun e w' => e = .returned (.tuple #[.int .i64 (-1), .int .i64 0]) ∧ Below w.heap.size w w' := by
  go_enter Tryz.func127, Tryz.ntmps127
  go_wp2
  go_ret2
  exact ⟨rfl, Below.refl _ _⟩
theorem notEmpty {s : ByteArray} (h : 0 < s.size) : s.toList.isEmpty = false := by
  rw [ByteArray.toList_eq]
  cases hd : s.data.toList with
  | nil =>
    have : s.size = s.data.toList.length := by simp
    rw [hd] at this
    rw [this] at h
    exact absurd h (by decide)
  | cons => rfl
/-- What the beginning of a text tells. -/
structure BeginOf (s : ByteArray) (k : Nat) : Prop where
  pos : 0 < s.size
  want : wantL ((strL s).getD 0 0) = k + 1
  le : k ≤ 3
theorem beginOf {s : ByteArray} (h : 0 < s.size) : ∃ k, BeginOf s k := by
  have hw := wantL_bd ((strL s).getD 0 0)
  exact ⟨wantL ((strL s).getD 0 0) - 1, h, by omega, by omega⟩
theorem BeginOf.call {s : ByteArray} {k : Nat} (h : BeginOf s k) (h0 : 0 < s.size) (W : World) (hM : Marks W) :
    Calls Tryz.prog 135 #[.int .u8 ((s[0]'h0).toNat : Int)] W fun e w' => e = .returned (.int .i64 (k : Int)) ∧ W = w' := by
  have hb := (strL_bd s) 0
  have := wanted_any ((strL s).getD 0 0) W hM hb.1 hb.2
  rw [h.want, Nat.add_sub_cancel, strL_get s 0 h.pos] at this
  exact this
set_option maxHeartbeats 1000000 in
theorem begin_short (s : ByteArray) (w : World) (hm : Marks w) (h0 : 0 < s.size) (hs : s.size < wantL ((strL s).getD 0 0)) :
    Calls Tryz.prog 127 #[.string s] w fun e w' => e = .returned (.tuple #[.int .i64 (-1), .int .i64 1]) ∧ Below w.heap.size w w' := by
  obtain ⟨k, hk⟩ := beginOf h0
  rw [hk.want] at hs
  have HW := Lib.hid (fun W (hM : Marks W) => hk.call h0 W hM)
  have hk4 := hk.le
  have hE := notEmpty h0
  have HM := Lib.hid hm
  clear hm hk
  go_enter Tryz.func127, Tryz.ntmps127
  go_wp2_with (go_at_call 135; refine (HW.out _ HM.out).mono ?_; rintro e w' ⟨rfl, rfl⟩)
  go_ret2
  exact ⟨rfl, Below.refl _ _⟩
theorem pow64 (j : Nat) (h : j ≤ 3) : (64 : Int) ^ j ≤ 262144 := by
  match j, h with
  | 0, _ => decide
  | 1, _ => decide
  | 2, _ => decide
  | 3, _ => decide
theorem belowDN (w : World) (n : Nat) : Below w.heap.size w (w.drewN n) := below_drewN (Below.refl _ _) n
theorem or_low (x y : Int) (h0 : 0 ≤ x ∧ x < 140737488355328) (h1 : 0 ≤ y ∧ y < 64) : bits .or .i64 (x * 64) y = x * 64 + y := or_above x y 6 h1.1 (by omega) h0.1 (by omega)
set_option maxRecDepth 100000 in
set_option maxHeartbeats 2000000 in
theorem begin_long (s : ByteArray) (w : World) (hm : Marks w) (h0 : 0 < s.size) (hsz : s.size ≤ 9223372036854775807) (hs : wantL ((strL s).getD 0 0) ≤ s.size) :
    Calls Tryz.prog 127 #[.string s] w fun e w' => e = .returned (.tuple #[.int .i64 (nxL (strL s)).1, .int .i64 ((nxL (strL s)).2 : Int)]) ∧ Below w.heap.size w w' := by
  obtain ⟨k, hk⟩ := beginOf h0
  have hb0 := (strL_bd s) 0
  have hms := marksub_bd _ hb0
  have hacc := accL_bd ((strL s).getD 0 0 - markL (k + 1)) (strL s) (by rw [← hk.want]; exact hms)
  rw [hk.want] at hs hms
  rw [strL_get s 0 h0] at hms
  have HC : Hid (candL (strL s) = accL ((strL s).getD 0 0 - markL (k + 1)) (strL s) k) := Lib.hid (by unfold candL; rw [hk.want, Nat.add_sub_cancel])
  have HG0 : Hid ((strL s).getD 0 0 = ((s[0]'h0).toNat : Int)) := Lib.hid (strL_get s 0 h0)
  have HW := Lib.hid (fun W (hM : Marks W) => hk.call h0 W hM)
  have hk4 := hk.le
  have hE := notEmpty h0
  have HM := Lib.hid hm
  have m1 : w.cell? ⟨2, k + 1, none⟩ = some (.int .i64 (markL (k + 1))) := marks_cell hm (k + 1) (by omega)
  have HWANT := Lib.hid hk.want
  have hmk : 0 ≤ markL (k + 1) ∧ markL (k + 1) ≤ 240 := by unfold markL; split <;> (try split) <;> (try split) <;> omega
  obtain ⟨m, hmm⟩ : ∃ m, m = markL (k + 1) := ⟨_, rfl⟩
  rw [← hmm] at m1 hms hacc HC hmk
  have HA := Lib.hid hacc
  have h1k : (1 : Int) + (k : Int) = ((k + 1 : Nat) : Int) := by omega
  clear hm hk hb0 hmm hacc
  go_enter Tryz.func127, Tryz.ntmps127
  go_wp2_with (go_at_call 135; refine (HW.out _ HM.out).mono ?_; rintro e w' ⟨rfl, rfl⟩)
  go_quiet (fail)
  go_wp2
  go_loopw [2, 4] (fun x i wr => Below w.heap.size w wr ∧ ∃ j : Nat, j ≤ k ∧ i = .int .i64 ((j + 1 : Nat) : Int) ∧ x = .int .i64 (accL ((strL s).getD 0 0 - m) (strL s) j)) (fun _ i _ => k + 1 - (intOf i).toNat)
  case atStart => exact ⟨belowDN w _, 0, by omega, rfl, by rw [HG0.out]; rfl⟩
  case round =>
    obtain ⟨hbel, j, hj, rfl, rfl⟩ := hrel
    have HB := Lib.hid hbel
    clear hbel
    by_cases hlt : j < k
    · have ha := HA.out j
      have h64 := pow64 j (by omega)
      have ha2 : accL ((strL s).getD 0 0 - m) (strL s) j < 140737488355328 := by
        omega
      obtain ⟨ha1, _⟩ := ha
      have HN : Hid (accL ((strL s).getD 0 0 - m) (strL s) (j + 1) = accL ((strL s).getD 0 0 - m) (strL s) j * 64 + ((s[j + 1]'(by omega)).toNat : Int) % 64) := Lib.hid (by rw [accL, strL_get s (j + 1) (by omega)])
      obtain ⟨x, hx⟩ : ∃ x, x = accL ((strL s).getD 0 0 - m) (strL s) j := ⟨_, rfl⟩
      rw [← hx] at ha1 ha2 HN ⊢
      have hu := (s[j + 1]'(by omega)).toNat_lt
      have e1 := and_mask_i64 ((s[j + 1]'(by omega)).toNat : Int) 6 (by decide) (by omega) (by omega)
      replace e1 : bits .and .i64 ((s[j + 1]'(by omega)).toNat : Int) 63 = ((s[j + 1]'(by omega)).toNat : Int) % 64 := e1
      have e2 := or_low x (((s[j + 1]'(by omega)).toNat : Int) % 64) ⟨ha1, ha2⟩ (by omega)
      clear hx h64
      go_wp2
      go_roundw
      case rel => exact ⟨HB.out, j + 1, by omega, by go_num, by rw [HN.out]⟩
      case measure => simp [intOf]; omega
    · obtain rfl : j = k := by omega
      have HML := Lib.hid (HM.out.below HB.out)
      have HPUT := Lib.hid (fun (W : World) (hM : Marks W) => put_any (candL (strL s)) W hM)
      rw [HC.out] at HPUT
      have hnx : Hid (nxL (strL s) = if putL (candL (strL s)) = (strL s).take (j + 1) then (candL (strL s), j + 1) else (-1, 1)) := Lib.hid (by
        have hl := length_strL s
        unfold nxL
        rw [HWANT.out, if_neg (by omega), if_neg (by omega)])
      have hcand : -1 ≤ candL (strL s) := by
        rw [HC.out]
        have := (HA.out j).1
        omega
      by_cases hp : putL (candL (strL s)) = (strL s).take (j + 1)
      · have HR : Hid (nxL (strL s) = (candL (strL s), j + 1)) := Lib.hid (by rw [hnx.out, if_pos hp])
        have heq : ((toS (putL (candL (strL s)))).toList == (s.extract 0 (j + 1)).toList) = true := by
          rw [eq_toList, decide_eq_true_eq, hp]
          exact strL_inj (by rw [strL_toS ((strL_bd s).take _), strL_extract, List.drop_zero])
        rw [HC.out] at heq HR
        obtain ⟨L, hL⟩ : ∃ L, L = accL ((strL s).getD 0 0 - m) (strL s) j := ⟨_, rfl⟩
        rw [← hL] at heq HR HPUT ⊢
        obtain ⟨T, hT⟩ : ∃ T, T = toS (putL L) := ⟨_, rfl⟩
        rw [← hT] at heq HPUT
        clear hp hnx hL hcand hT
        go_wp2_with fail
        have b0 : (0 : Int) ≤ (j : Int) + 1 := by omega
        have b1 : (j : Int) + 1 ≤ (s.size : Int) := by omega
        have b2 : ((j : Int) + 1).toNat = j + 1 := by omega
        go_region_held3 (fun W => Below wr.heap.size wr W) (first | exact (Below.refl _ _).drew | exact Below.trans (by assumption) (hb.mono (Below.size (by assumption))) | go_keep)
          (first | (go_at_call 132; refine (HPUT.out _ (HML.out.below ‹_›)).mono ?_; rintro e w' ⟨rfl, hb⟩))
        have HW' := Lib.hid (‹Below wr.heap.size wr _›)
        clear b0 b1 b2 hb
        go_wp2_with fail
        go_ret2
        rw [HR.out]
        exact ⟨rfl, HB.out.trans (HW'.out.mono HB.out.size)⟩
      · have HR : Hid (nxL (strL s) = (-1, 1)) := Lib.hid (by rw [hnx.out, if_neg hp])
        have heq : ((toS (putL (candL (strL s)))).toList == (s.extract 0 (j + 1)).toList) = false := by
          rw [eq_toList, decide_eq_false_iff_not]
          intro e
          have e2 := (eq_toS (putL_bytes _)).1 e.symm
          rw [strL_extract, List.drop_zero] at e2
          exact hp e2.symm
        rw [HC.out] at heq
        obtain ⟨L, hL⟩ : ∃ L, L = accL ((strL s).getD 0 0 - m) (strL s) j := ⟨_, rfl⟩
        rw [← hL] at heq HPUT ⊢
        obtain ⟨T, hT⟩ : ∃ T, T = toS (putL L) := ⟨_, rfl⟩
        rw [← hT] at heq HPUT
        clear hp hnx hL hcand hT
        go_wp2_with fail
        have b0 : (0 : Int) ≤ (j : Int) + 1 := by omega
        have b1 : (j : Int) + 1 ≤ (s.size : Int) := by omega
        have b2 : ((j : Int) + 1).toNat = j + 1 := by omega
        go_region_held3 (fun W => Below wr.heap.size wr W) (first | exact (Below.refl _ _).drew | exact Below.trans (by assumption) (hb.mono (Below.size (by assumption))) | go_keep)
          (first | (go_at_call 132; refine (HPUT.out _ (HML.out.below ‹_›)).mono ?_; rintro e w' ⟨rfl, hb⟩))
        have HW' := Lib.hid (‹Below wr.heap.size wr _›)
        clear b0 b1 b2 hb
        go_wp2_with fail
        go_ret2
        rw [HR.out]
        exact ⟨rfl, HB.out.trans (HW'.out.mono HB.out.size)⟩
theorem begin_any (s : ByteArray) (w : World) (hm : Marks w) (hs : s.size ≤ 9223372036854775807) :
    Calls Tryz.prog 127 #[.string s] w fun e w' => e = .returned (.tuple #[.int .i64 (nxL (strL s)).1, .int .i64 ((nxL (strL s)).2 : Int)]) ∧ Below w.heap.size w w' := by
  have hl := length_strL s
  rcases Nat.eq_zero_or_pos s.size with h0 | h0
  · have e : s = ⟨#[]⟩ := strL_inj (by rw [List.eq_nil_of_length_eq_zero (hl.trans h0)]; rfl)
    subst e
    exact begin_empty w
  · rcases Nat.lt_or_ge s.size (wantL ((strL s).getD 0 0)) with h1 | h1
    · have : nxL (strL s) = (-1, 1) := by
        unfold nxL
        rw [if_neg (by omega), if_pos (by omega)]
      rw [this]
      exact begin_short s w hm h0 h1
    · exact begin_long s w hm h0 hs h1
end Go.Proofs.YtblheibknpphkaaGreatDoor
namespace Go.Proofs.YtblheibknpphkaaGreatDoor
open Go Go.RowKit
set_option maxHeartbeats 400000 in
theorem refPut_none (n : Int) (w : World) (h : n < 0 ∨ 1114111 < n ∨ (55296 ≤ n ∧ n ≤ 57343)) :
    Calls Tryz.prog 91 #[.int .i64 n] w fun e w' => e = .returned (.string (toS (putL n))) ∧ Below w.heap.size w w' := by
  have hS : toS (putL n) = ⟨#[]⟩ := by rw [putL_none h]; rfl
  rw [hS]
  clear hS
  rcases h with h | h | ⟨h, h'⟩
  all_goals
    go_enter Tryz.func91, Tryz.ntmps91
    go_wp2
    go_ret
    exact ⟨rfl, Below.refl _ _⟩
set_option maxHeartbeats 400000 in
theorem refPut_one (n : Int) (w : World) (h0 : 0 ≤ n) (h1 : n < 128) :
    Calls Tryz.prog 91 #[.int .i64 n] w fun e w' => e = .returned (.string (toS (putL n))) ∧ Below w.heap.size w w' := by
  have hp : putL n = [n] := putL_one h0 h1
  have hcv : ∀ W : World, (convert 31 9 (.slice (some ⟨W.heap.size, 0, none⟩) 1 1)).run Tryz.prog (W.alloc (.cells #[.int .u8 (n)] 5)) = .ok (.string (toS [n])) (W.alloc (.cells #[.int .u8 (n)] 5)) := fun W =>
    conv_str _ [n] 1 1 _ rfl (Lies.lit W _ _ _)
  rw [hp]
  obtain ⟨S, hS⟩ : ∃ S, S = toS [n] := ⟨_, rfl⟩
  rw [← hS] at hcv ⊢
  clear hS hp
  go_enter Tryz.func91, Tryz.ntmps91
  go_wp2
  go_ret
  exact ⟨rfl, belowAlloc _ _⟩
set_option maxHeartbeats 400000 in
theorem refPut_two (n : Int) (w : World) (h0 : 128 ≤ n) (h1 : n < 2048) :
    Calls Tryz.prog 91 #[.int .i64 n] w fun e w' => e = .returned (.string (toS (putL n))) ∧ Below w.heap.size w w' := by
  have hp : putL n = [192 + n / 64, 128 + n % 64] := putL_two h0 h1
  have hcv : ∀ W : World, (convert 31 9 (.slice (some ⟨W.heap.size, 0, none⟩) 2 2)).run Tryz.prog (W.alloc (.cells #[.int .u8 (192 + n / 64), .int .u8 (128 + n % 64)] 5)) = .ok (.string (toS [192 + n / 64, 128 + n % 64])) (W.alloc (.cells #[.int .u8 (192 + n / 64), .int .u8 (128 + n % 64)] 5)) := fun W =>
    conv_str _ [192 + n / 64, 128 + n % 64] 2 2 _ rfl (Lies.lit W _ _ _)
  rw [hp]
  obtain ⟨S, hS⟩ : ∃ S, S = toS [192 + n / 64, 128 + n % 64] := ⟨_, rfl⟩
  rw [← hS] at hcv ⊢
  clear hS hp
  go_enter Tryz.func91, Tryz.ntmps91
  go_wp2
  go_ret
  exact ⟨rfl, belowAlloc _ _⟩
set_option maxHeartbeats 400000 in
theorem refPut_three (n : Int) (w : World) (h0 : 2048 ≤ n) (h1 : n < 65536) (h2 : n < 55296) :
    Calls Tryz.prog 91 #[.int .i64 n] w fun e w' => e = .returned (.string (toS (putL n))) ∧ Below w.heap.size w w' := by
  have hp : putL n = [224 + n / 4096, 128 + n / 64 % 64, 128 + n % 64] := putL_three h0 h1 (by omega)
  have hcv : ∀ W : World, (convert 31 9 (.slice (some ⟨W.heap.size, 0, none⟩) 3 3)).run Tryz.prog (W.alloc (.cells #[.int .u8 (224 + n / 4096), .int .u8 (128 + n / 64 % 64), .int .u8 (128 + n % 64)] 5)) = .ok (.string (toS [224 + n / 4096, 128 + n / 64 % 64, 128 + n % 64])) (W.alloc (.cells #[.int .u8 (224 + n / 4096), .int .u8 (128 + n / 64 % 64), .int .u8 (128 + n % 64)] 5)) := fun W =>
    conv_str _ [224 + n / 4096, 128 + n / 64 % 64, 128 + n % 64] 3 3 _ rfl (Lies.lit W _ _ _)
  rw [hp]
  obtain ⟨S, hS⟩ : ∃ S, S = toS [224 + n / 4096, 128 + n / 64 % 64, 128 + n % 64] := ⟨_, rfl⟩
  rw [← hS] at hcv ⊢
  clear hS hp
  go_enter Tryz.func91, Tryz.ntmps91
  go_wp2
  go_ret
  exact ⟨rfl, belowAlloc _ _⟩
set_option maxHeartbeats 400000 in
theorem refPut_three2 (n : Int) (w : World) (h0 : 2048 ≤ n) (h1 : n < 65536) (h2 : 57343 < n) :
    Calls Tryz.prog 91 #[.int .i64 n] w fun e w' => e = .returned (.string (toS (putL n))) ∧ Below w.heap.size w w' := by
  have hp : putL n = [224 + n / 4096, 128 + n / 64 % 64, 128 + n % 64] := putL_three h0 h1 (by omega)
  have hcv : ∀ W : World, (convert 31 9 (.slice (some ⟨W.heap.size, 0, none⟩) 3 3)).run Tryz.prog (W.alloc (.cells #[.int .u8 (224 + n / 4096), .int .u8 (128 + n / 64 % 64), .int .u8 (128 + n % 64)] 5)) = .ok (.string (toS [224 + n / 4096, 128 + n / 64 % 64, 128 + n % 64])) (W.alloc (.cells #[.int .u8 (224 + n / 4096), .int .u8 (128 + n / 64 % 64), .int .u8 (128 + n % 64)] 5)) := fun W =>
    conv_str _ [224 + n / 4096, 128 + n / 64 % 64, 128 + n % 64] 3 3 _ rfl (Lies.lit W _ _ _)
  rw [hp]
  obtain ⟨S, hS⟩ : ∃ S, S = toS [224 + n / 4096, 128 + n / 64 % 64, 128 + n % 64] := ⟨_, rfl⟩
  rw [← hS] at hcv ⊢
  clear hS hp
  go_enter Tryz.func91, Tryz.ntmps91
  go_wp2
  go_ret
  exact ⟨rfl, belowAlloc _ _⟩
set_option maxHeartbeats 400000 in
theorem refPut_four (n : Int) (w : World) (h0 : 65536 ≤ n) (h1 : n ≤ 1114111) :
    Calls Tryz.prog 91 #[.int .i64 n] w fun e w' => e = .returned (.string (toS (putL n))) ∧ Below w.heap.size w w' := by
  have hp : putL n = [240 + n / 262144, 128 + n / 4096 % 64, 128 + n / 64 % 64, 128 + n % 64] := putL_four h0 h1
  have hcv : ∀ W : World, (convert 31 9 (.slice (some ⟨W.heap.size, 0, none⟩) 4 4)).run Tryz.prog (W.alloc (.cells #[.int .u8 (240 + n / 262144), .int .u8 (128 + n / 4096 % 64), .int .u8 (128 + n / 64 % 64), .int .u8 (128 + n % 64)] 5)) = .ok (.string (toS [240 + n / 262144, 128 + n / 4096 % 64, 128 + n / 64 % 64, 128 + n % 64])) (W.alloc (.cells #[.int .u8 (240 + n / 262144), .int .u8 (128 + n / 4096 % 64), .int .u8 (128 + n / 64 % 64), .int .u8 (128 + n % 64)] 5)) := fun W =>
    conv_str _ [240 + n / 262144, 128 + n / 4096 % 64, 128 + n / 64 % 64, 128 + n % 64] 4 4 _ rfl (Lies.lit W _ _ _)
  rw [hp]
  obtain ⟨S, hS⟩ : ∃ S, S = toS [240 + n / 262144, 128 + n / 4096 % 64, 128 + n / 64 % 64, 128 + n % 64] := ⟨_, rfl⟩
  rw [← hS] at hcv ⊢
  clear hS hp
  go_enter Tryz.func91, Tryz.ntmps91
  go_wp2
  go_ret
  exact ⟨rfl, belowAlloc _ _⟩
theorem refPut_any (n : Int) (w : World) :
    Calls Tryz.prog 91 #[.int .i64 n] w fun e w' => e = .returned (.string (toS (putL n))) ∧ Below w.heap.size w w' := by
  rcases putL_cases n with ⟨h, h'⟩ | ⟨h1, h2, h⟩ | ⟨h1, h2, h⟩ | ⟨h1, h2, h3, h⟩ | ⟨h1, h2, h⟩
  · exact refPut_none n w h'
  · exact refPut_one n w h1 h2
  · exact refPut_two n w h1 h2
  · rcases h3 with h3 | h3
    · exact refPut_three n w h1 h2 h3
    · exact refPut_three2 n w h1 h2 h3
  · exact refPut_four n w h1 h2
end Go.Proofs.YtblheibknpphkaaGreatDoor
namespace Go.Proofs.YtblheibknpphkaaGreatDoor
open Go Go.RowKit
/-- No letter of fewer than k bytes begins here. -/
def NoneBelow (l : List Int) (k : Nat) : Prop := ∀ q, 1 ≤ q → q < k → q ≤ l.length → ¬ putL (refC l q) = l.take q
theorem NoneBelow.step {l : List Int} {k : Nat} (h : NoneBelow l k) (hk : ¬ putL (refC l k) = l.take k) : NoneBelow l (k + 1) := fun q h1 h2 h3 => by
  rcases Nat.lt_or_ge q k with hq | hq
  · exact h q h1 hq h3
  · obtain rfl : q = k := by omega
    exact hk
def refM (k : Nat) : Int := if k = 1 then 256 else if k = 2 then 32 else if k = 3 then 16 else 8
theorem refNext_empty (w : World) :
    Calls Tryz.prog 88 #[.string ⟨#[]⟩] w fun e w' => e = .returned (.tuple #[.int .i64 (-1), .int .i64 0]) ∧ Below w.heap.size w w' := by
  go_enter Tryz.func88, Tryz.ntmps88
  go_wp2
  go_ret2
  exact ⟨rfl, Below.refl _ _⟩
set_option maxRecDepth 100000 in
set_option maxHeartbeats 4000000 in
theorem refNext_some (s : ByteArray) (w : World) (h0 : 0 < s.size) (hsz : s.size ≤ 9223372036854775807) :
    Calls Tryz.prog 88 #[.string s] w fun e w' => e = .returned (.tuple #[.int .i64 (nxL (strL s)).1, .int .i64 ((nxL (strL s)).2 : Int)]) ∧ Below w.heap.size w w' := by
  have hlen := length_strL s
  have HNE : Hid (strL s ≠ []) := Lib.hid (fun e => by rw [e] at hlen; simp at hlen; omega)
  have HL := Lib.hid hlen
  have hz : ((s.size : Int) == 0) = false := by rw [beq_eq_false_iff_ne]; omega
  clear hlen
  go_enter Tryz.func88, Tryz.ntmps88
  go_wp2
  go_loopw [4] (fun v wr => ∃ (k : Nat) (K : Int), 1 ≤ k ∧ k ≤ 5 ∧ K = (k : Int) ∧ v = .int .i64 K ∧ NoneBelow (strL s) k ∧ Below w.heap.size w wr) (fun v _ => 5 - (intOf v).toNat)
  case atStart => exact ⟨1, 1, by omega, by omega, rfl, rfl, fun q h1 h2 _ => by omega, Below.refl _ _⟩
  case round =>
    obtain ⟨k, K, hk1, hk5, hK, rfl, hno, hbel⟩ := hrel
    have HNO := Lib.hid hno
    have HB := Lib.hid hbel
    have HK := Lib.hid hK
    have hK1 : 1 ≤ K := by omega
    by_cases hin : K ≤ 4 ∧ K ≤ (s.size : Int)
    · obtain ⟨hK4, hKs⟩ := hin
      have hs0 := (s[0]'h0).toNat_lt
      have HG0 := Lib.hid (strL_get s 0 h0)
      have h4 : K = 1 ∨ K = 2 ∨ K = 3 ∨ K = 4 := by omega
      obtain ⟨c0, hcc⟩ : ∃ c0 : Int, c0 = (strL s).getD 0 0 % refM k := ⟨_, rfl⟩
      have hc0 : 0 ≤ c0 ∧ c0 ≤ 255 := by
        rw [hcc, HG0.out]; unfold refM; split <;> (try split) <;> (try split) <;> omega
      have HC0 := Lib.hid hcc
      have HA := Lib.hid (accL_bd c0 (strL s) hc0)
      have HREF : Hid (refC (strL s) k = accL c0 (strL s) (k - 1)) := Lib.hid (by rw [HC0.out]; rfl)
      have hin2 : k ≤ s.size := by have := HK.out; omega
      have hk4 : k ≤ 4 := by have := HK.out; omega
      obtain ⟨HSW, hsw'⟩ : Hid (c0 = if K = 1 then ((s[0]'h0).toNat : Int) else if K = 2 then ((s[0]'h0).toNat : Int) % 32 else if K = 3 then ((s[0]'h0).toNat : Int) % 16 else ((s[0]'h0).toNat : Int) % 8) ∧
          ((K == 2) = false ∧ (K == 3) = false ∧ (K == 4) = false ∧ K = 1 ∨ (K == 2) = true ∧ K = 2 ∨ (K == 2) = false ∧ (K == 3) = true ∧ K = 3 ∨ (K == 2) = false ∧ (K == 3) = false ∧ (K == 4) = true ∧ K = 4) := by
        rcases h4 with e | e | e | e
        · obtain rfl : k = 1 := by omega
          exact ⟨Lib.hid (by rw [hcc, HG0.out, if_pos e]; show _ % 256 = _; omega), .inl ⟨by rw [e]; rfl, by rw [e]; rfl, by rw [e]; rfl, e⟩⟩
        · obtain rfl : k = 2 := by omega
          exact ⟨Lib.hid (by rw [hcc, HG0.out, if_neg (by omega), if_pos e]; rfl), .inr (.inl ⟨by rw [e]; rfl, e⟩)⟩
        · obtain rfl : k = 3 := by omega
          exact ⟨Lib.hid (by rw [hcc, HG0.out, if_neg (by omega), if_neg (by omega), if_pos e]; rfl), .inr (.inr (.inl ⟨by rw [e]; rfl, by rw [e]; rfl, e⟩))⟩
        · obtain rfl : k = 4 := by omega
          exact ⟨Lib.hid (by rw [hcc, HG0.out, if_neg (by omega), if_neg (by omega), if_neg (by omega)]; rfl), .inr (.inr (.inr ⟨by rw [e]; rfl, by rw [e]; rfl, by rw [e]; rfl, e⟩))⟩
      clear hno hbel hK h4 hc0 hcc
      rcases hsw' with ⟨q2, q3, q4, hKK⟩ | ⟨q2, hKK⟩ | ⟨q2, q3, hKK⟩ | ⟨q2, q3, q4, hKK⟩
      all_goals
        have HKK := Lib.hid hKK
        clear hKK
        go_wp2
        go_loop [5, 6] (fun x i => ∃ j : Nat, j + 1 ≤ k ∧ i = .int .i64 ((j + 1 : Nat) : Int) ∧ x = .int .i64 (accL c0 (strL s) j)) (fun _ i => k - (intOf i).toNat)
        case atStart => exact ⟨0, by omega, rfl, by rw [accL, HSW.out, HKK.out]; rfl⟩
        case round =>
          obtain ⟨j, hj, rfl, rfl⟩ := hrel
          by_cases hlt : j + 1 < k
          · have hltK : (j : Int) + 1 < K := by have := HK.out; omega
            have ha := HA.out j
            have h64 := pow64 j (by omega)
            have ha2 : accL c0 (strL s) j < 140737488355328 := by omega
            obtain ⟨ha1, _⟩ := ha
            have HN : Hid (accL c0 (strL s) (j + 1) = accL c0 (strL s) j * 64 + ((s[j + 1]'(by omega)).toNat : Int) % 64) := Lib.hid (by rw [accL, strL_get s (j + 1) (by omega)])
            obtain ⟨x, hx⟩ : ∃ x, x = accL c0 (strL s) j := ⟨_, rfl⟩
            rw [← hx] at ha1 ha2 HN ⊢
            have hu := (s[j + 1]'(by omega)).toNat_lt
            clear hx h64
            go_wp2
            go_round
            case rel => exact ⟨j + 1, by omega, by go_num, by rw [HN.out]⟩
            case measure => simp [intOf]; omega
          · have hltK : ¬ (j : Int) + 1 < K := by have := HK.out; omega
            obtain rfl : k = j + 1 := by omega
            have HP := Lib.hid (fun W : World => refPut_any (accL c0 (strL s) j) W)
            rw [Nat.add_sub_cancel] at HREF
            have b0 : (0 : Int) ≤ K := by omega
            have b2 : K.toNat = j + 1 := by have := HK.out; omega
            by_cases hp : putL (accL c0 (strL s) j) = (strL s).take (j + 1)
            · have HR : Hid (nxL (strL s) = (accL c0 (strL s) j, j + 1)) := Lib.hid (by
                have := ref_hit (l := strL s) (k := j + 1) (by omega) (by rw [HL.out]; omega) (by rw [HREF.out]; exact hp)
                rw [HREF.out] at this
                exact this)
              have heq : ((toS (putL (accL c0 (strL s) j))).toList == (s.extract 0 (j + 1)).toList) = true := by
                rw [eq_toList, decide_eq_true_eq, hp]
                exact strL_inj (by rw [strL_toS ((strL_bd s).take _), strL_extract, List.drop_zero])
              obtain ⟨x, hx⟩ : ∃ x, x = accL c0 (strL s) j := ⟨_, rfl⟩
              rw [← hx] at heq HR HP ⊢
              obtain ⟨T, hT⟩ : ∃ T, T = toS (putL x) := ⟨_, rfl⟩
              rw [← hT] at heq HP
              clear hp hx hT HREF
              go_wp2_with fail
              go_region_held3 (fun W => Below wr.heap.size wr W) (first | exact (Below.refl _ _).drew | exact Below.trans (by assumption) (hb.mono (Below.size (by assumption))) | go_keep)
                (first | (go_at_call 91; refine (HP.out _).mono ?_; rintro e w' ⟨rfl, hb⟩))
              have HW' := Lib.hid (‹Below wr.heap.size wr _›)
              clear b0 b2 hb
              go_wp2_with fail
              go_ret2
              rw [HR.out, HK.out]
              exact ⟨rfl, HB.out.trans (HW'.out.mono HB.out.size)⟩
            · have HNX : Hid (NoneBelow (strL s) (j + 1 + 1)) := Lib.hid (HNO.out.step (by rw [HREF.out]; exact hp))
              have heq : ((toS (putL (accL c0 (strL s) j))).toList == (s.extract 0 (j + 1)).toList) = false := by
                rw [eq_toList, decide_eq_false_iff_not]
                intro e
                have e2 := (eq_toS (putL_bytes _)).1 e.symm
                rw [strL_extract, List.drop_zero] at e2
                exact hp e2.symm
              obtain ⟨x, hx⟩ : ∃ x, x = accL c0 (strL s) j := ⟨_, rfl⟩
              rw [← hx] at heq HP ⊢
              obtain ⟨T, hT⟩ : ∃ T, T = toS (putL x) := ⟨_, rfl⟩
              rw [← hT] at heq HP
              clear hp hx hT HREF
              go_wp2_with fail
              go_region_held3 (fun W => Below wr.heap.size wr W) (first | exact (Below.refl _ _).drew | exact Below.trans (by assumption) (hb.mono (Below.size (by assumption))) | go_keep)
                (first | (go_at_call 91; refine (HP.out _).mono ?_; rintro e w' ⟨rfl, hb⟩))
              have HW' := Lib.hid (‹Below wr.heap.size wr _›)
              clear b0 b2 hb
              go_wp2_with fail
              go_roundw
              case rel => exact ⟨j + 1 + 1, K + 1, by omega, by omega, by have := HK.out; omega, rfl, HNX.out, HB.out.trans (HW'.out.mono HB.out.size)⟩
              case measure => simp [intOf]; omega
    · have HR : Hid (nxL (strL s) = (-1, 1)) := Lib.hid (ref_miss HNE.out (fun q h1 h2 h3 => HNO.out q h1 (by have := HK.out; have := HL.out; omega) h3))
      have hd : ¬ (K ≤ 4 ∧ K ≤ (s.size : Int)) := hin
      by_cases h4 : K ≤ 4
      · have h5 : ¬ K ≤ (s.size : Int) := fun h => hin ⟨h4, h⟩
        clear hin hd hno hbel hK
        go_wp2
        go_ret2
        rw [HR.out]
        exact ⟨rfl, HB.out⟩
      · clear hin hd hno hbel hK
        go_wp2
        go_ret2
        rw [HR.out]
        exact ⟨rfl, HB.out⟩
theorem refNext_any (s : ByteArray) (w : World) (hsz : s.size ≤ 9223372036854775807) :
    Calls Tryz.prog 88 #[.string s] w fun e w' => e = .returned (.tuple #[.int .i64 (nxL (strL s)).1, .int .i64 ((nxL (strL s)).2 : Int)]) ∧ Below w.heap.size w w' := by
  rcases Nat.eq_zero_or_pos s.size with h0 | h0
  · have e : s = ⟨#[]⟩ := strL_inj (by rw [List.eq_nil_of_length_eq_zero ((length_strL s).trans h0)]; rfl)
    subst e
    exact refNext_empty w
  · exact refNext_some s w h0 hsz
/-! ### Bad -/
end Go.Proofs.YtblheibknpphkaaGreatDoor
