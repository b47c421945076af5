/- UtfSmall, JsonSame, JsonHuge, JsonHuge2, JsonBytes, JsonWord, JsonHex, JsonPlain, UtfPut, UtfBegin, JsonLead: merged. -/
import Derived.WalkLawsBesides
import Derived.WalkSpells
import Derived.Handy
import Derived.RegionTactic
import Derived.BigQuiet
import Derived.Deep.QuietTactic
import Derived.StillTailTactics
import Derived.LoopTactic
import Derived.IntWalk
import Derived.Test.YtjfgmgkhinehaaaGreatDoorCx01
set_option linter.all false
namespace Go.Proofs.YtjfgmgkhinehaaaGreatDoor
open Go Go.RowKit
/-- The table of first marks. -/
abbrev Marks (w : World) : Prop := Blk w 2 261 (ints .i64 [0, 0, 192, 224, 240])
theorem Marks.below {w w' : World} (h : Marks w) (hb : Below w.heap.size w w') : Marks w' := Blk.below h hb h.lt
theorem marks_cell {w : World} (h : Marks w) (k : Nat) (hk : k < 5) : w.cell? ⟨2, k, none⟩ = some (.int .i64 (markL k)) := by
  rw [Blk.cell h]
  match k, hk with
  | 0, _ => rfl
  | 1, _ => rfl
  | 2, _ => rfl
  | 3, _ => rfl
  | 4, _ => rfl
/-! ### sizeOf -/
theorem size_facts (n : Int) : ∃ k : Nat, k = (putL n).length ∧ k ≤ 4 ∧ (n < 0 → k = 0) ∧ (1114112 ≤ n → k = 0) ∧ (55296 ≤ n → n < 57344 → k = 0) ∧ (0 ≤ n → n < 128 → k = 1) ∧ (128 ≤ n → n < 2048 → k = 2) ∧ (2048 ≤ n → n < 55296 → k = 3) ∧ (57344 ≤ n → n < 65536 → k = 3) ∧ (65536 ≤ n → n < 1114112 → k = 4) := by
  refine ⟨_, rfl, putL_len n, ?_⟩
  rcases putL_cases n with ⟨h, h'⟩ | ⟨h1, h2, h⟩ | ⟨h1, h2, h⟩ | ⟨h1, h2, h3, h⟩ | ⟨h1, h2, h⟩ <;> rw [h] <;> simp only [List.length_cons, List.length_nil, Nat.zero_add, Nat.reduceAdd] <;> refine ⟨?_, ?_, ?_, ?_, ?_, ?_, ?_, ?_⟩ <;> intros <;> first | trivial | omega
set_option maxHeartbeats 400000 in
theorem sizeOf_any (n : Int) (w : World) :
    Calls Tryz.prog 199 #[.int .i64 n] w fun e w' => e = .returned (.int .i64 (((putL n).length : Nat) : Int)) ∧ w = w' := by
  obtain ⟨k, hk, hf⟩ := size_facts n
  rw [← hk]
  have HF := Lib.hid hf
  clear hk hf
  go_enter Tryz.func199, Tryz.ntmps199
  go_wp2
  all_goals go_ret
  all_goals exact ⟨ret_int (by have := HF.out; omega), rfl⟩
/-! ### tail -/
theorem or_128 (n : Int) (h : 0 ≤ n ∧ n < 64) : bits .or .i64 128 n = 128 + n := or_above 1 n 7 h.1 (by omega) (by decide) (by omega)
theorem tail_any (n : Int) (w : World) (h0 : 0 ≤ n) (h1 : n ≤ 9223372036854775807) :
    Calls Tryz.prog 223 #[.int .i64 n] w fun e w' => e = .returned (.int .u8 (128 + n % 64)) ∧ w = w' := by
  have e1 := and_mask_i64 n 6 (by decide) h0 (by omega)
  replace e1 : bits .and .i64 n 63 = n % 64 := e1
  have e2 := or_128 (n % 64) (by omega)
  go_enter Tryz.func223, Tryz.ntmps223
  go_wp2
  go_ret
  exact ⟨ret_int (by omega), rfl⟩
/-! ### wanted -/
set_option maxHeartbeats 400000 in
theorem wanted_any (c : Int) (w : World) (hm : Marks w) (h0 : 0 ≤ c) (h1 : c ≤ 255) :
    Calls Tryz.prog 221 #[.int .u8 c] w fun e w' => e = .returned (.int .i64 (((wantL c - 1 : Nat) : Int))) ∧ w = w' := by
  have m4 : w.cell? ⟨2, 4, none⟩ = some (.int .i64 240) := marks_cell hm 4 (by decide)
  have m3 : w.cell? ⟨2, 3, none⟩ = some (.int .i64 224) := marks_cell hm 3 (by decide)
  have m2 : w.cell? ⟨2, 2, none⟩ = some (.int .i64 192) := marks_cell hm 2 (by decide)
  have hf : (240 ≤ c → wantL c = 4) ∧ (224 ≤ c → c < 240 → wantL c = 3) ∧ (192 ≤ c → c < 224 → wantL c = 2) ∧ (c < 192 → wantL c = 1) := by
    unfold wantL
    refine ⟨fun h => if_pos h, fun h h' => ?_, fun h h' => ?_, fun h => ?_⟩
    · rw [if_neg (by omega), if_pos h]
    · rw [if_neg (by omega), if_neg (by omega), if_pos h]
    · rw [if_neg (by omega), if_neg (by omega), if_neg (by omega)]
  obtain ⟨k, hk⟩ : ∃ k, k = wantL c := ⟨_, rfl⟩
  rw [← hk] at hf ⊢
  have HF := Lib.hid hf
  clear hk hf hm
  go_enter Tryz.func221, Tryz.ntmps221
  go_wp2
  all_goals go_ret
  all_goals exact ⟨ret_int (by have := HF.out; omega), rfl⟩
end Go.Proofs.YtjfgmgkhinehaaaGreatDoor
namespace Go.Proofs.YtjfgmgkhinehaaaGreatDoor
open Go Go.RowKit
theorem RepJ.open {W : World} {j : J} {v : Value} (h : RepJ W j v) : ∃ vk A c, v = .agg #[.int .i64 j.kind, .int .i64 j.n, .string j.s, .slice A j.l.length c, vk] ∧ j.s.size ≤ 9223372036854775807 ∧ RepK W j.k vk ∧ j.l.length ≤ 9223372036854775807 ∧
    (j.l ≠ [] → ∃ b o, A = some ⟨b, o, none⟩ ∧ b < W.heap.size ∧ RepC W b o j.l) := by
  cases j; rw [RepJ] at h; exact h
/-- The slice of strings, opened. -/
theorem RepK.open {W : World} {k : List ByteArray} {v : Value} (h : RepK W k v) : ∃ A c, v = .slice A k.length c ∧ k.length ≤ 9223372036854775807 ∧ ∀ i (hi : i < k.length), ∃ b o, A = some ⟨b, o, none⟩ ∧ b < W.heap.size ∧ (k[i]).size ≤ 9223372036854775807 ∧ W.cell? ⟨b, o + i, none⟩ = some (.string k[i]) := by
  obtain ⟨A, c, e, hl, hc⟩ := h
  refine ⟨A, c, e, hl, fun i hi => ?_⟩
  obtain ⟨b, o, e1, hlt, hcs⟩ := hc (fun e => by rw [e] at hi; exact absurd hi (Nat.not_lt_zero _))
  obtain ⟨t, h1, h2, h3⟩ := hcs i hi
  rw [List.getElem?_eq_getElem hi] at h1
  obtain rfl := Option.some.inj h1
  exact ⟨b, o, e1, hlt, h2, h3⟩
theorem sameJ_iff {a b : J} : sameJ a b = true ↔ a.kind = b.kind ∧ a.n = b.n ∧ a.s = b.s ∧ a.k = b.k ∧ sameLs a.l b.l = true := by
  cases a; cases b
  simp [sameJ, J.kind, J.n, J.s, J.k, J.l, and_assoc]
theorem sameLs_iff : ∀ {l m : List J}, sameLs l m = true ↔ l.length = m.length ∧ ∀ i (h1 : i < l.length) (h2 : i < m.length), sameJ l[i] m[i] = true
  | [], [] => by simp [sameLs]
  | [], _ :: _ => by simp [sameLs]
  | _ :: _, [] => by simp [sameLs]
  | x :: r, y :: t => by
    rw [sameLs, Bool.and_eq_true, sameLs_iff (l := r) (m := t)]
    constructor
    · rintro ⟨h1, h2, h3⟩
      refine ⟨by simp [h2], fun i hi1 hi2 => ?_⟩
      cases i with
      | zero => exact h1
      | succ i => exact h3 i (by simpa using hi1) (by simpa using hi2)
    · rintro ⟨h1, h2⟩
      exact ⟨h2 0 (by simp) (by simp), by simpa using h1, fun i hi1 hi2 => h2 (i + 1) (by simpa using hi1) (by simpa using hi2)⟩
theorem beq_str {a b : ByteArray} (h : a = b) : (a.toList == b.toList) = true := by rw [eq_toList]; exact decide_eq_true h
theorem beq_str_ne {a b : ByteArray} (h : a ≠ b) : (a.toList == b.toList) = false := by rw [eq_toList]; exact decide_eq_false h
set_option maxRecDepth 100000 in
set_option maxHeartbeats 4000000 in
theorem refSame_ne (a b : J) (va vb : Value) (W : World) (ha : RepJ W a va) (hb : RepJ W b vb) (h : ¬ (a.kind = b.kind ∧ a.n = b.n ∧ a.s = b.s ∧ a.l.length = b.l.length ∧ a.k.length = b.k.length)) :
    Calls Tryz.prog 15 #[va, vb] W fun e w' => e = .returned (.bool (sameJ a b)) ∧ Below W.heap.size W w' := by
  obtain ⟨vk, A, c, rfl, hs, hk, hl, hc⟩ := ha.open
  obtain ⟨vk', A', c', rfl, hs', hk', hl', hc'⟩ := hb.open
  obtain ⟨K, d, rfl, hkl, hkc⟩ := hk.open
  obtain ⟨K', d', rfl, hkl', hkc'⟩ := hk'.open
  have HR : Hid (sameJ a b = false) := Lib.hid (by
    rw [← Bool.not_eq_true, sameJ_iff]
    rintro ⟨h1, h2, h3, h4, h5⟩
    exact h ⟨h1, h2, h3, (sameLs_iff.1 h5).1, by rw [h4]⟩)
  obtain ⟨s, hs1⟩ : ∃ s, s = a.s := ⟨_, rfl⟩
  obtain ⟨t, ht1⟩ : ∃ s, s = b.s := ⟨_, rfl⟩
  obtain ⟨k1, hk1⟩ : ∃ k, k = a.kind := ⟨_, rfl⟩
  obtain ⟨k2, hk2⟩ : ∃ k, k = b.kind := ⟨_, rfl⟩
  obtain ⟨n1, hn1⟩ : ∃ k, k = a.n := ⟨_, rfl⟩
  obtain ⟨n2, hn2⟩ : ∃ k, k = b.n := ⟨_, rfl⟩
  obtain ⟨p1, hp1⟩ : ∃ k, k = a.l.length := ⟨_, rfl⟩
  obtain ⟨p2, hp2⟩ : ∃ k, k = b.l.length := ⟨_, rfl⟩
  obtain ⟨q1, hq1⟩ : ∃ k, k = a.k.length := ⟨_, rfl⟩
  obtain ⟨q2, hq2⟩ : ∃ k, k = b.k.length := ⟨_, rfl⟩
  rw [← hs1, ← ht1, ← hk1, ← hk2, ← hn1, ← hn2, ← hp1, ← hp2, ← hq1, ← hq2] at h
  rw [← hs1, ← hk1, ← hn1, ← hp1, ← hq1, ← ht1, ← hk2, ← hn2, ← hp2, ← hq2]
  clear ha hb hk hk' hkc hkc' hc hc' hs hs' hs1 ht1 hk1 hk2 hn1 hn2 hp1 hp2 hq1 hq2 hl hl' hkl hkl'
  by_cases e1 : k1 = k2
  · have b1 : (k1 == k2) = true := by rw [beq_iff_eq]; exact e1
    have c1 : (k1 != k2) = false := by rw [bne, b1]; rfl
    have E1 := Lib.hid e1
    by_cases e2 : n1 = n2
    · have b2 : (n1 == n2) = true := by rw [beq_iff_eq]; exact e2
      have c2 : (n1 != n2) = false := by rw [bne, b2]; rfl
      have E2 := Lib.hid e2
      by_cases e3 : s = t
      · have b3 := beq_str e3
        have c3 : (s.toList != t.toList) = false := by rw [bne, b3]; rfl
        have E3 := Lib.hid e3
        by_cases e4 : p1 = p2
        · have b4 : ((p1 : Int) == (p2 : Int)) = true := by rw [beq_iff_eq]; omega
          have c4 : ((p1 : Int) != (p2 : Int)) = false := by rw [bne, b4]; rfl
          have e5 : ¬ q1 = q2 := fun e5 => h ⟨e1, e2, e3, e4, e5⟩
          have b5 : ((q1 : Int) == (q2 : Int)) = false := by rw [beq_eq_false_iff_ne]; omega
          have c5 : ((q1 : Int) != (q2 : Int)) = true := by rw [bne, b5]; rfl
          clear e1 e2 e3 e4 e5 h
          go_enter Tryz.func15, Tryz.ntmps15
          go_wp2
          go_ret
          rw [HR.out]
          exact ⟨rfl, ((Below.refl _ _).alloc (Nat.le_refl _) _).alloc (by simp) _⟩
        · have b4 : ((p1 : Int) == (p2 : Int)) = false := by rw [beq_eq_false_iff_ne]; omega
          have c4 : ((p1 : Int) != (p2 : Int)) = true := by rw [bne, b4]; rfl
          clear e1 e2 e3 e4 h
          go_enter Tryz.func15, Tryz.ntmps15
          go_wp2
          go_ret
          rw [HR.out]
          exact ⟨rfl, ((Below.refl _ _).alloc (Nat.le_refl _) _).alloc (by simp) _⟩
      · have b3 := beq_str_ne e3
        have c3 : (s.toList != t.toList) = true := by rw [bne, b3]; rfl
        clear e1 e2 e3 h
        go_enter Tryz.func15, Tryz.ntmps15
        go_wp2
        go_ret
        rw [HR.out]
        exact ⟨rfl, ((Below.refl _ _).alloc (Nat.le_refl _) _).alloc (by simp) _⟩
    · have b2 : (n1 == n2) = false := by rw [beq_eq_false_iff_ne]; exact e2
      have c2 : (n1 != n2) = true := by rw [bne, b2]; rfl
      clear e1 e2 h
      go_enter Tryz.func15, Tryz.ntmps15
      go_wp2
      go_ret
      rw [HR.out]
      exact ⟨rfl, ((Below.refl _ _).alloc (Nat.le_refl _) _).alloc (by simp) _⟩
  · have b1 : (k1 == k2) = false := by rw [beq_eq_false_iff_ne]; exact e1
    have c1 : (k1 != k2) = true := by rw [bne, b1]; rfl
    clear e1 h
    go_enter Tryz.func15, Tryz.ntmps15
    go_wp2
    go_ret
    rw [HR.out]
    exact ⟨rfl, ((Below.refl _ _).alloc (Nat.le_refl _) _).alloc (by simp) _⟩
end Go.Proofs.YtjfgmgkhinehaaaGreatDoor
namespace Go.Proofs.YtjfgmgkhinehaaaGreatDoor
open Go Go.RowKit
mutual
/-- Is a value more than is looked at, and how many are still looked at. -/
def hgJ : J → Int → Bool × Int
  | .mk _ _ s l k, left =>
    if left - 1 - min (k.length : Int) 5000 < 0 ∨ 5000 < s.size ∨ 1000 < k.length ∨ 1000 < l.length then (true, left - 1 - min (k.length : Int) 5000)
    else if k.any (fun t => decide (1000 < t.size)) then (true, left - 1 - min (k.length : Int) 5000)
    else hgLs l (left - 1 - min (k.length : Int) 5000)
def hgLs : List J → Int → Bool × Int
  | [], left => (false, left)
  | x :: r, left => if (hgJ x left).1 then (true, (hgJ x left).2) else hgLs r (hgJ x left).2
end
theorem hgJ_eq (a : J) (left : Int) : hgJ a left =
    if left - 1 - min (a.k.length : Int) 5000 < 0 ∨ 5000 < a.s.size ∨ 1000 < a.k.length ∨ 1000 < a.l.length then (true, left - 1 - min (a.k.length : Int) 5000)
    else if a.k.any (fun t => decide (1000 < t.size)) then (true, left - 1 - min (a.k.length : Int) 5000)
    else hgLs a.l (left - 1 - min (a.k.length : Int) 5000) := by
  cases a; rw [hgJ]; rfl
theorem hgLs_bd : ∀ (l : List J) (left : Int), (∀ x ∈ l, ∀ left, left ≤ 1000 → (hgJ x left).1 = false → 0 ≤ (hgJ x left).2 ∧ (hgJ x left).2 ≤ 1000) → 0 ≤ left → left ≤ 1000 → (hgLs l left).1 = false → 0 ≤ (hgLs l left).2 ∧ (hgLs l left).2 ≤ 1000
  | [], left, _, h0, h1, _ => by rw [hgLs]; exact ⟨h0, h1⟩
  | x :: r, left, ih, h0, h1, hf => by
    rw [hgLs] at hf ⊢
    cases hx : (hgJ x left).1
    · have hb := ih x (by simp) left h1 hx
      rw [hx] at hf
      rw [if_neg (by decide)] at hf ⊢
      exact hgLs_bd r _ (fun y hy => ih y (List.mem_cons_of_mem _ hy)) hb.1 hb.2 hf
    · rw [hx, if_pos rfl] at hf; exact absurd hf (by simp)
theorem hgJ_bd : ∀ (a : J) (left : Int), left ≤ 1000 → (hgJ a left).1 = false → 0 ≤ (hgJ a left).2 ∧ (hgJ a left).2 ≤ 1000 := fun a => by
  induction a using J.ind with
  | h kd n s l k ih =>
    intro left h1 hf
    rw [hgJ] at hf ⊢
    split at hf
    · exact absurd hf (by simp)
    · rename_i hn
      rw [if_neg hn]
      split at hf
      · exact absurd hf (by simp)
      · rename_i hn2
        rw [if_neg hn2]
        exact hgLs_bd l _ ih (by omega) (by omega) hf
theorem hgLs_drop {l : List J} {m : Nat} (h : m < l.length) (left : Int) : hgLs (l.drop m) left = if (hgJ l[m] left).1 then (true, (hgJ l[m] left).2) else hgLs (l.drop (m + 1)) (hgJ l[m] left).2 := by
  rw [List.drop_eq_getElem_cons h, hgLs]
set_option maxRecDepth 100000 in
set_option maxHeartbeats 8000000 in
theorem refHuge_early (a : J) (va : Value) (left : Int) (W : World) (ha : RepJ W a va) (h0 : 0 ≤ left) (h1 : left ≤ 1000)
    (h : left - 1 - min (a.k.length : Int) 5000 < 0 ∨ 5000 < a.s.size ∨ 1000 < a.k.length ∨ 1000 < a.l.length) :
    Calls Tryz.prog 44 #[va, .int .i64 left] W fun e w' => e = .returned (.tuple #[.bool (hgJ a left).1, .int .i64 (hgJ a left).2]) ∧ Below W.heap.size W w' := by
  have HR : Hid (hgJ a left = (true, left - 1 - min (a.k.length : Int) 5000)) := Lib.hid (by rw [hgJ_eq, if_pos h])
  obtain ⟨vk, A, c, rfl, hs, hk, hl, hc⟩ := ha.open
  obtain ⟨K, d, rfl, hkl, hkc⟩ := hk.open
  obtain ⟨s, hs1⟩ : ∃ s, s = a.s := ⟨_, rfl⟩
  obtain ⟨kd, hk1⟩ : ∃ k, k = a.kind := ⟨_, rfl⟩
  obtain ⟨n, hn1⟩ : ∃ k, k = a.n := ⟨_, rfl⟩
  obtain ⟨p, hp1⟩ : ∃ k, k = a.l.length := ⟨_, rfl⟩
  obtain ⟨q, hq1⟩ : ∃ k, k = a.k.length := ⟨_, rfl⟩
  rw [← hs1, ← hk1, ← hn1, ← hp1, ← hq1]
  rw [← hs1, ← hp1, ← hq1] at h
  rw [← hq1] at HR
  rw [← hp1] at hl
  rw [← hq1] at hkl
  rw [← hs1] at hs
  clear ha hk hkc hc hs1 hk1 hn1 hp1 hq1
  by_cases m1 : (q : Int) ≤ 5000
  · rw [show min (q : Int) 5000 = q by omega] at h HR
    by_cases l0 : left - 1 - (q : Int) < 0
    · clear h
      go_enter Tryz.func44, Tryz.ntmps44
      go_wp2
      (try go_wp2)
      go_ret2
      rw [HR.out]
      exact ⟨rfl, (Below.refl _ _).alloc (Nat.le_refl _) _⟩
    · by_cases l1 : (5000 : Int) < (s.size : Int)
      · clear h
        go_enter Tryz.func44, Tryz.ntmps44
        go_wp2
        (try go_wp2)
        go_ret2
        rw [HR.out]
        exact ⟨rfl, (Below.refl _ _).alloc (Nat.le_refl _) _⟩
      · have l2 : ¬ (1000 : Int) < (q : Int) := by omega
        have l3 : (1000 : Int) < (p : Int) := by omega
        clear h
        go_enter Tryz.func44, Tryz.ntmps44
        go_wp2
        (try go_wp2)
        go_ret2
        rw [HR.out]
        exact ⟨rfl, (Below.refl _ _).alloc (Nat.le_refl _) _⟩
  · rw [show min (q : Int) 5000 = 5000 by omega] at h HR
    have l0 : left - 1 - 5000 < 0 := by omega
    clear h
    go_enter Tryz.func44, Tryz.ntmps44
    go_wp2
    (try go_wp2)
    go_ret2
    rw [HR.out]
    exact ⟨rfl, (Below.refl _ _).alloc (Nat.le_refl _) _⟩
end Go.Proofs.YtjfgmgkhinehaaaGreatDoor
namespace Go.Proofs.YtjfgmgkhinehaaaGreatDoor
open Go Go.RowKit
set_option maxRecDepth 100000 in
set_option maxHeartbeats 8000000 in
theorem refHuge_late (a : J) (ih : ∀ x ∈ a.l, ∀ (va : Value) (left : Int) (W : World), RepJ W x va → 0 ≤ left → left ≤ 1000 → Calls Tryz.prog 44 #[va, .int .i64 left] W fun e w' => e = .returned (.tuple #[.bool (hgJ x left).1, .int .i64 (hgJ x left).2]) ∧ Below W.heap.size W w')
    (va : Value) (left : Int) (W : World) (ha : RepJ W a va) (h0 : 0 ≤ left) (h1 : left ≤ 1000)
    (h : ¬ (left - 1 - min (a.k.length : Int) 5000 < 0 ∨ 5000 < a.s.size ∨ 1000 < a.k.length ∨ 1000 < a.l.length)) :
    Calls Tryz.prog 44 #[va, .int .i64 left] W fun e w' => e = .returned (.tuple #[.bool (hgJ a left).1, .int .i64 (hgJ a left).2]) ∧ Below W.heap.size W w' := by
  have HR : Hid (hgJ a left = if a.k.any (fun t => decide (1000 < t.size)) then (true, left - 1 - min (a.k.length : Int) 5000) else hgLs a.l (left - 1 - min (a.k.length : Int) 5000)) := Lib.hid (by rw [hgJ_eq, if_neg h])
  obtain ⟨vk, A, c, rfl, hs, hk, hl, hc⟩ := ha.open
  obtain ⟨K, d, rfl, hkl, hkc⟩ := hk.open
  have HKC := Lib.hid hkc
  have HC := Lib.hid hc
  have HIH := Lib.hid ih
  obtain ⟨s, hs1⟩ : ∃ s, s = a.s := ⟨_, rfl⟩
  obtain ⟨kd, hk1⟩ : ∃ k, k = a.kind := ⟨_, rfl⟩
  obtain ⟨n, hn1⟩ : ∃ k, k = a.n := ⟨_, rfl⟩
  obtain ⟨p, hp1⟩ : ∃ k, k = a.l.length := ⟨_, rfl⟩
  obtain ⟨q, hq1⟩ : ∃ k, k = a.k.length := ⟨_, rfl⟩
  rw [← hs1, ← hk1, ← hn1, ← hp1, ← hq1]
  rw [← hs1, ← hp1, ← hq1] at h
  have hq5 : (q : Int) ≤ 1000 := by omega
  have hp5 : (p : Int) ≤ 1000 := by omega
  rw [← hq1, show min (q : Int) 5000 = q by omega] at HR
  rw [show min (q : Int) 5000 = q by omega] at h
  have l0 : ¬ left - 1 - (q : Int) < 0 := by omega
  have l1 : ¬ (5000 : Int) < (s.size : Int) := by omega
  have l2 : ¬ (1000 : Int) < (q : Int) := by omega
  have l3 : ¬ (1000 : Int) < (p : Int) := by omega
  have m1 : (q : Int) ≤ 5000 := by omega
  have HL : Hid (0 ≤ left - 1 - (q : Int) ∧ left - 1 - (q : Int) ≤ 1000) := Lib.hid (by omega)
  have HP := Lib.hid hp1
  have HQ := Lib.hid hq1
  clear ha hk hkc hc hs hs1 hk1 hn1 hp1 hq1 hl hkl ih h
  go_enter Tryz.func44, Tryz.ntmps44
  go_wp2
  (try go_wp2)
  have hB1 : Below W.heap.size W (W.alloc (.cells #[.int .i64 kd, .int .i64 n, .string s, .slice A p c, .slice K q d] 27)) := (Below.refl _ _).alloc (Nat.le_refl _) _
  have hx1 : (W.alloc (.cells #[.int .i64 kd, .int .i64 n, .string s, .slice A p c, .slice K q d] 27)).cell? ⟨W.heap.size, 3, none⟩ = some (.slice A p c) := by simp
  have hx2 : (W.alloc (.cells #[.int .i64 kd, .int .i64 n, .string s, .slice A p c, .slice K q d] 27)).cell? ⟨W.heap.size, 4, none⟩ = some (.slice K q d) := by simp
  obtain ⟨w2, hw2⟩ : ∃ x, x = W.alloc (.cells #[.int .i64 kd, .int .i64 n, .string s, .slice A p c, .slice K q d] 27) := ⟨_, rfl⟩
  rw [← hw2] at hB1 hx1 hx2 ⊢
  have HX := Lib.hid (And.intro hx1 hx2)
  have HB2 := Lib.hid hB1
  clear hw2 hx1 hx2 hB1
  go_loopw [6] (fun i wr => ∃ j : Nat, j ≤ q ∧ i = .int .i64 (j : Int) ∧ (∀ x (hx : x < a.k.length), x < j → (a.k[x]).size ≤ 1000) ∧ Below w2.heap.size w2 wr) (fun i _ => q - (intOf i).toNat)
  case atStart => exact ⟨0, by omega, rfl, fun x _ hx => absurd hx (Nat.not_lt_zero _), Below.refl _ _⟩
  case round =>
    obtain ⟨j, hj, rfl, hall, hbel⟩ := hrel
    have HA := Lib.hid hall
    have HBE := Lib.hid hbel
    have y2 := (hbel.cell (p := ⟨W.heap.size, 4, none⟩) (lt_of_cell HX.out.2)).trans HX.out.2
    clear hall hbel
    by_cases hlt : j < q
    · have hj1 : j < a.k.length := by rw [← HQ.out]; exact hlt
      obtain ⟨g, o, rfl, hg, hz, hcell⟩ := HKC.out j hj1
      have hbw := HB2.out.trans (HBE.out.mono HB2.out.size)
      have z1 := (hbw.cell (p := ⟨g, o + j, none⟩) hg).trans hcell
      have HE : Hid (∀ x (hx : x < a.k.length), x = j → a.k[x].size = (a.k[j]'hj1).size) := Lib.hid (fun x hx e => by subst e; rfl)
      have HIN : Hid (a.k[j]'hj1 ∈ a.k) := Lib.hid (List.getElem_mem hj1)
      obtain ⟨t1, ht1⟩ : ∃ t, t = a.k[j]'hj1 := ⟨_, rfl⟩
      rw [← ht1] at z1 HE HIN hz
      have i0 : (j : Int) < (q : Int) := by omega
      have i2 : (0 : Int) ≤ (j : Int) := by omega
      clear hcell ht1 hbw
      by_cases he : (1000 : Int) < (t1.size : Int)
      · have HF : Hid (hgJ a left = (true, left - 1 - (q : Int))) := Lib.hid (by
          rw [HR.out, if_pos]
          exact List.any_eq_true.2 ⟨t1, HIN.out, decide_eq_true (by omega)⟩)
        go_wp2
        go_ret2
        rw [HF.out]
        exact ⟨rfl, HB2.out.trans (HBE.out.mono HB2.out.size)⟩
      · have HT : Hid (t1.size ≤ 1000) := Lib.hid (by omega)
        go_wp2
        exact ⟨⟨j + 1, by omega, by go_num, fun x hx hx2 => by
          rcases Nat.lt_or_ge x j with h | h
          · exact HA.out x hx h
          · rw [HE.out x hx (by omega)]; exact HT.out, HBE.out⟩, by simp [intOf]; omega⟩
    · obtain rfl : j = q := by omega
      have hge : ¬ (j : Int) < (j : Int) := by omega
      have HF : Hid (hgJ a left = hgLs a.l (left - 1 - (j : Int))) := Lib.hid (by
        rw [HR.out, if_neg]
        rw [Bool.not_eq_true, List.any_eq_false]
        intro x hx
        obtain ⟨i, hi, rfl⟩ := List.getElem_of_mem hx
        have := HA.out i hi (by rw [HQ.out]; exact hi)
        simp; omega)
      go_wp2
      go_loopw [1, 7] (fun u i wq => ∃ (m : Nat) (lf : Int), m ≤ p ∧ i = .int .i64 (m : Int) ∧ u = .int .i64 lf ∧ 0 ≤ lf ∧ lf ≤ 1000 ∧ hgJ a left = hgLs (a.l.drop m) lf ∧ Below w2.heap.size w2 wq) (fun _ i _ => p - (intOf i).toNat)
      case atStart => exact ⟨0, left - 1 - (j : Int), by omega, rfl, rfl, HL.out.1, HL.out.2, HF.out, HBE.out⟩
      case round =>
        obtain ⟨m, lf, hm, rfl, rfl, f0, f1, hrun, hbel⟩ := hrel
        have HRUN := Lib.hid hrun
        have HBE2 := Lib.hid hbel
        have y1 := (hbel.cell (p := ⟨W.heap.size, 3, none⟩) (lt_of_cell HX.out.1)).trans HX.out.1
        clear hrun hbel y2
        by_cases hlt : m < p
        · have hm1 : m < a.l.length := by rw [← HP.out]; exact hlt
          obtain ⟨g, o, rfl, hg, hrep⟩ := HC.out (fun e => by rw [e] at hm1; exact absurd hm1 (Nat.not_lt_zero _))
          obtain ⟨v1, hr1, hf1⟩ := hrep.at m hm1
          have hbw := HB2.out.trans (HBE2.out.mono HB2.out.size)
          have HBW := Lib.hid hbw
          have HCALL := Lib.hid (fun (w' : World) (hb : Below W.heap.size W w') => HIH.out a.l[m] (List.getElem_mem hm1) v1 lf w' (RepJ.below hb _ _ hr1) f0 f1)
          have HBD := Lib.hid (hgJ_bd a.l[m] lf f1)
          have HST : Hid (hgJ a left = if (hgJ a.l[m] lf).1 then (true, (hgJ a.l[m] lf).2) else hgLs (a.l.drop (m + 1)) (hgJ a.l[m] lf).2) := Lib.hid (HRUN.out.trans (hgLs_drop hm1 lf))
          obtain ⟨a0, a1, a2, a3, a4, rfl, z0, z1, z2, z3, z4⟩ := hf1.below hg hbw
          obtain ⟨f, hff⟩ : ∃ f, f = (hgJ a.l[m] lf).1 := ⟨_, rfl⟩
          obtain ⟨r, hrr⟩ : ∃ r, r = (hgJ a.l[m] lf).2 := ⟨_, rfl⟩
          rw [← hff, ← hrr] at HCALL HBD HST
          clear hrep hr1 hf1 hbw hff hrr
          have w0 : (0 : Int) ≤ (m : Int) := by omega
          have w1 : (m : Int) < (p : Int) := by omega
          by_cases hf : f = true
          · obtain rfl := hf
            have HF2 : Hid (hgJ a left = (true, r)) := Lib.hid (by rw [HST.out, if_pos rfl])
            go_wp2_with (go_at_call 44; (with_reducible refine (HCALL.out _ HBW.out).mono ?_); rintro e w' ⟨rfl, hb⟩; have HB := Lib.hid hb; clear hb)
            go_ret2
            rw [HF2.out]
            exact ⟨rfl, HBW.out.trans (HB.out.mono HBW.out.size)⟩
          · obtain rfl : f = false := by simpa using hf
            obtain ⟨r0, r1⟩ := HBD.out rfl
            have HF2 : Hid (hgJ a left = hgLs (a.l.drop (m + 1)) r) := Lib.hid (by rw [HST.out, if_neg (by decide)])
            go_wp2_with (go_at_call 44; (with_reducible refine (HCALL.out _ HBW.out).mono ?_); rintro e w' ⟨rfl, hb⟩; have HB := Lib.hid hb; clear hb)
            exact ⟨⟨m + 1, r, by omega, by go_num, rfl, r0, r1, HF2.out, HBE2.out.trans (HB.out.mono HBE2.out.size)⟩, by simp [intOf]; omega⟩
        · obtain rfl : m = p := by omega
          have HF2 : Hid (hgJ a left = (false, lf)) := Lib.hid (by rw [HRUN.out, List.drop_eq_nil_of_le (by rw [HP.out]; exact Nat.le_refl _), hgLs])
          have hge2 : ¬ (m : Int) < (m : Int) := by omega
          go_wp2
          go_ret2
          rw [HF2.out]
          exact ⟨rfl, HB2.out.trans (HBE2.out.mono HB2.out.size)⟩
theorem refHuge_any (a : J) : ∀ (va : Value) (left : Int) (W : World), RepJ W a va → 0 ≤ left → left ≤ 1000 → Calls Tryz.prog 44 #[va, .int .i64 left] W fun e w' => e = .returned (.tuple #[.bool (hgJ a left).1, .int .i64 (hgJ a left).2]) ∧ Below W.heap.size W w' := by
  induction a using J.ind with
  | h kind n s l k ih =>
    intro va left W ha h0 h1
    by_cases h : left - 1 - min ((J.mk kind n s l k).k.length : Int) 5000 < 0 ∨ 5000 < (J.mk kind n s l k).s.size ∨ 1000 < (J.mk kind n s l k).k.length ∨ 1000 < (J.mk kind n s l k).l.length
    · exact refHuge_early _ va left W ha h0 h1 h
    · exact refHuge_late (J.mk kind n s l k) ih va left W ha h0 h1 h
set_option maxHeartbeats 1000000 in
theorem refGreat_any (a : J) (va : Value) (W : World) (ha : RepJ W a va) : Calls Tryz.prog 10 #[va] W fun e w' => e = .returned (.bool (hgJ a 1000).1) ∧ Below W.heap.size W w' := by
  have HC := Lib.hid (fun (w' : World) (hb : Below W.heap.size W w') => refHuge_any a va 1000 w' (RepJ.below hb _ _ ha) (by decide) (by decide))
  obtain ⟨vk, A, c, rfl, hs, hk, hl, hc⟩ := ha.open
  obtain ⟨K, d, rfl, hkl, hkc⟩ := hk.open
  obtain ⟨r, hr⟩ : ∃ r, r = hgJ a 1000 := ⟨_, rfl⟩
  rw [← hr] at HC ⊢
  obtain ⟨f, r⟩ := r
  clear ha hk hkc hc hr hs hl hkl
  have hB1 := Lib.hid (belowAlloc W (.cells #[.int .i64 a.kind, .int .i64 a.n, .string a.s, .slice A a.l.length c, .slice K a.k.length d] 27))
  go_enter Tryz.func10, Tryz.ntmps10
  go_wp2_with (go_at_call 44; (with_reducible refine (HC.out _ hB1.out).mono ?_); rintro e w' ⟨rfl, hb⟩; have HB := Lib.hid hb; clear hb)
  go_ret
  exact ⟨rfl, hB1.out.trans (HB.out.mono hB1.out.size)⟩
end Go.Proofs.YtjfgmgkhinehaaaGreatDoor
namespace Go.Proofs.YtjfgmgkhinehaaaGreatDoor
open Go Go.RowKit
/-- A byte, -1 at the end. -/
def atL (l : List Int) (i : Nat) : Int := l.getD i (-1)
theorem atL_get (s : ByteArray) (i : Nat) (h : i < s.size) : atL (strL s) i = (s[i].toNat : Int) := by
  rw [← strL_get s i h, atL]
  have h2 : i < (strL s).length := by rw [length_strL]; exact h
  rw [List.getD_eq_getElem?_getD, List.getD_eq_getElem?_getD, List.getElem?_eq_getElem h2]
  rfl
theorem atL_end (s : ByteArray) (i : Nat) (h : s.size ≤ i) : atL (strL s) i = -1 := by
  rw [atL, List.getD_eq_getElem?_getD, List.getElem?_eq_none (by rw [length_strL]; exact h)]
  rfl
def isB (c : Int) : Bool := decide (c = 32 ∨ c = 9 ∨ c = 10 ∨ c = 13)
/-- Behind blanks. -/
def skipL (l : List Int) (i : Nat) : Nat := if h : i < l.length then (if isB (atL l i) then skipL l (i + 1) else i) else i
termination_by l.length - i
decreasing_by omega
theorem skipL_blank {l : List Int} {i : Nat} (h : isB (atL l i) = true) : skipL l i = skipL l (i + 1) := by
  by_cases hl : i < l.length
  · rw [skipL, dif_pos hl, if_pos h]
  · exfalso
    rw [atL, List.getD_eq_getElem?_getD, List.getElem?_eq_none (by omega)] at h
    exact absurd h (by decide)
theorem skipL_stop {l : List Int} {i : Nat} (h : ¬ isB (atL l i) = true) : skipL l i = i := by
  by_cases hl : i < l.length
  · rw [skipL, dif_pos hl, if_neg h]
  · rw [skipL, dif_neg hl]
theorem skipL_le : ∀ (n : Nat) (l : List Int) (i : Nat), l.length - i ≤ n → i ≤ l.length → i ≤ skipL l i ∧ skipL l i ≤ l.length
  | 0, l, i, hn, hi => by rw [skipL, dif_neg (by omega)]; omega
  | n + 1, l, i, hn, hi => by
    rw [skipL]
    split
    · split
      · have := skipL_le n l (i + 1) (by omega) (by omega)
        omega
      · omega
    · omega
end Go.Proofs.YtjfgmgkhinehaaaGreatDoor
namespace Go.Proofs.YtjfgmgkhinehaaaGreatDoor
open Go Go.RowKit
/-- Does a word stand at a place? Where it ends, or fails. -/
def wordL (l : List Int) : Nat → List Int → Nat × Int
  | i, [] => (i, 0)
  | i, c :: r => if atL l i = c then wordL l (i + 1) r else (i, 50)
theorem wordL_drop {l x : List Int} {i k : Nat} (h : k < x.length) : wordL l i (x.drop k) = if atL l i = x.getD k 0 then wordL l (i + 1) (x.drop (k + 1)) else (i, 50) := by
  rw [List.drop_eq_getElem_cons h, wordL, List.getD_eq_getElem?_getD, List.getElem?_eq_getElem h]
  rfl
theorem atL_bd (s : ByteArray) (i : Nat) : -1 ≤ atL (strL s) i ∧ atL (strL s) i ≤ 255 := by
  rcases Nat.lt_or_ge i s.size with h | h
  · rw [atL_get s i h]; have := (s[i]).toNat_lt; omega
  · rw [atL_end s i h]; omega
end Go.Proofs.YtjfgmgkhinehaaaGreatDoor
namespace Go.Proofs.YtjfgmgkhinehaaaGreatDoor
open Go Go.RowKit
/-- A digit of base 16, -1: none. -/
def hexD (c : Int) : Int := if 48 ≤ c ∧ c ≤ 57 then c - 48 else if 97 ≤ c ∧ c ≤ 102 then c - 97 + 10 else if 65 ≤ c ∧ c ≤ 70 then c - 65 + 10 else -1
/-- Digits of base 16 (the first: how many still are), the number till then; or -1, and where what is none stands. -/
def hexL (l : List Int) : Nat → Nat → Int → Int × Int
  | 0, _, n => (n, 0)
  | k + 1, i, n => if hexD (atL l i) < 0 then (-1, ((min i l.length : Nat) : Int)) else hexL l k (i + 1) (16 * n + hexD (atL l i))
end Go.Proofs.YtjfgmgkhinehaaaGreatDoor
namespace Go.Proofs.YtjfgmgkhinehaaaGreatDoor
open Go Go.RowKit
/-- What a letter behind a \ stands for. -/
def plainL (c : Int) : List Int := if c = 34 ∨ c = 92 ∨ c = 47 then [c] else if c = 98 then [8] else if c = 102 then [12] else if c = 110 then [10] else if c = 114 then [13] else if c = 116 then [9] else []
end Go.Proofs.YtjfgmgkhinehaaaGreatDoor
namespace Go.Proofs.YtjfgmgkhinehaaaGreatDoor
open Go Go.RowKit
/-- A letter's bytes, with 0 behind them. -/
def spL (n : Int) : List Int := putL n ++ List.replicate (4 - (putL n).length) 0
theorem spL_one {n : Int} (h : 0 ≤ n) (h1 : n < 128) : spL n = [n, 0, 0, 0] := by unfold spL; rw [putL_one h h1]; rfl
theorem spL_two {n : Int} (h : 128 ≤ n) (h1 : n < 2048) : spL n = [192 + n / 64, 128 + n % 64, 0, 0] := by unfold spL; rw [putL_two h h1]; rfl
theorem spL_three {n : Int} (h : 2048 ≤ n) (h1 : n < 65536) (h2 : n < 55296 ∨ 57343 < n) : spL n = [224 + n / 4096, 128 + n / 64 % 64, 128 + n % 64, 0] := by unfold spL; rw [putL_three h h1 h2]; rfl
theorem spL_four {n : Int} (h : 65536 ≤ n) (h1 : n ≤ 1114111) : spL n = [240 + n / 262144, 128 + n / 4096 % 64, 128 + n / 64 % 64, 128 + n % 64] := by unfold spL; rw [putL_four h h1]; rfl
theorem spL_none {n : Int} (h : n < 0 ∨ 1114111 < n ∨ (55296 ≤ n ∧ n ≤ 57343)) : spL n = [0, 0, 0, 0] := by unfold spL; rw [putL_none h]; rfl
theorem or_0 (x : Int) (h : 0 ≤ x ∧ x < 256) : bits .or .i64 0 x = x := by
  have := or_above 0 x 8 h.1 (by omega) (by decide) (by omega)
  simpa using this
theorem or_192 (x : Int) (h : 0 ≤ x ∧ x < 64) : bits .or .i64 192 x = 192 + x := or_above 3 x 6 h.1 (by omega) (by decide) (by omega)
theorem or_224 (x : Int) (h : 0 ≤ x ∧ x < 32) : bits .or .i64 224 x = 224 + x := or_above 7 x 5 h.1 (by omega) (by decide) (by omega)
theorem or_240 (x : Int) (h : 0 ≤ x ∧ x < 16) : bits .or .i64 240 x = 240 + x := or_above 15 x 4 h.1 (by omega) (by decide) (by omega)
/-- A cell of the row of four. -/
abbrev fourB (a b c d : Int) : Array Value := #[.int .u8 a, .int .u8 b, .int .u8 c, .int .u8 d]
theorem sizeOf_is (n : Int) (k : Nat) (h : (putL n).length = k) (W : World) : Calls Tryz.prog 199 #[.int .i64 n] W fun e w' => e = .returned (.int .i64 (k : Int)) ∧ W = w' := by
  have := sizeOf_any n W
  rw [h] at this
  exact this
set_option maxHeartbeats 400000 in
theorem spell_none (n : Int) (w : World) (h : putL n = []) :
    Calls Tryz.prog 219 #[.int .i64 n] w fun e w' => e = .returned (.agg (fourB 0 0 0 0)) ∧ Below w.heap.size w w' := by
  have HS := Lib.hid (sizeOf_is n 0 (by rw [h]; rfl))
  clear h
  go_enter Tryz.func219, Tryz.ntmps219
  go_wp2_with (go_at_call 199; refine (HS.out _).mono ?_; rintro e w' ⟨rfl, rfl⟩)
  exact bodyPost_ret (v := .agg (fourB 0 0 0 0)) (by simp [results, Tryz.results219, go_sem]) rfl ⟨rfl, ((Below.refl _ _).alloc (Nat.le_refl _) _).alloc (by simp) _⟩
theorem ret_four {a b c d a' b' c' d' : Int} (h1 : a = a') (h2 : b = b') (h3 : c = c') (h4 : d = d') : Ending.returned (.agg (fourB a b c d)) = .returned (.agg (fourB a' b' c' d')) := by rw [h1, h2, h3, h4]
set_option maxHeartbeats 400000 in
theorem spell_one (n : Int) (w : World) (hm : Marks w) (h0 : 0 ≤ n) (h1 : n < 128) :
    Calls Tryz.prog 219 #[.int .i64 n] w fun e w' => e = .returned (.agg (fourB n 0 0 0)) ∧ Below w.heap.size w w' := by
  have HS := Lib.hid (sizeOf_is n 1 (by rw [putL_one h0 h1]; rfl))
  have m1 : w.cell? ⟨2, 1, none⟩ = some (.int .i64 0) := marks_cell hm 1 (by decide)
  have e1 := or_0 n (by omega)
  have hlt := hm.lt
  clear hm
  go_enter Tryz.func219, Tryz.ntmps219
  go_wp2_with (first | (go_at_call 199; refine (HS.out _).mono ?_; rintro e w' ⟨rfl, rfl⟩) | (go_at_call 223; refine (tail_any _ _ (by omega) (by omega)).mono ?_; rintro e w' ⟨rfl, rfl⟩))
  refine bodyPost_ret (v := .agg (fourB n 0 0 0)) (by simp [results, Tryz.results219, go_sem]) rfl ⟨?_, ((Below.refl _ _).alloc (Nat.le_refl _) _).alloc (by simp) _⟩
  exact ret_four (by omega) (by omega) (by omega) (by omega)
set_option maxHeartbeats 400000 in
theorem spell_two (n : Int) (w : World) (hm : Marks w) (h0 : 128 ≤ n) (h1 : n < 2048) :
    Calls Tryz.prog 219 #[.int .i64 n] w fun e w' => e = .returned (.agg (fourB (192 + n / 64) (128 + n % 64) 0 0)) ∧ Below w.heap.size w w' := by
  have HS := Lib.hid (sizeOf_is n 2 (by rw [putL_two h0 h1]; rfl))
  have m1 : w.cell? ⟨2, 2, none⟩ = some (.int .i64 192) := marks_cell hm 2 (by decide)
  have e1 := or_192 (n / 64) (by omega)
  have hlt := hm.lt
  clear hm
  go_enter Tryz.func219, Tryz.ntmps219
  go_wp2_with (first | (go_at_call 199; refine (HS.out _).mono ?_; rintro e w' ⟨rfl, rfl⟩) | (go_at_call 223; refine (tail_any _ _ (by omega) (by omega)).mono ?_; rintro e w' ⟨rfl, rfl⟩))
  refine bodyPost_ret (v := .agg (fourB (192 + n / 64) (128 + n % 64) 0 0)) (by simp [results, Tryz.results219, go_sem]) rfl ⟨?_, ((Below.refl _ _).alloc (Nat.le_refl _) _).alloc (by simp) _⟩
  exact ret_four (by omega) (by omega) (by omega) (by omega)
set_option maxHeartbeats 400000 in
theorem spell_three (n : Int) (w : World) (hm : Marks w) (h0 : 2048 ≤ n) (h1 : n < 65536) (h2 : n < 55296 ∨ 57343 < n) :
    Calls Tryz.prog 219 #[.int .i64 n] w fun e w' => e = .returned (.agg (fourB (224 + n / 4096) (128 + n / 64 % 64) (128 + n % 64) 0)) ∧ Below w.heap.size w w' := by
  have H2 := Lib.hid h2
  have HS := Lib.hid (sizeOf_is n 3 (by rw [putL_three h0 h1 h2]; rfl))
  have m1 : w.cell? ⟨2, 3, none⟩ = some (.int .i64 224) := marks_cell hm 3 (by decide)
  have e1 := or_224 (n / 64 / 64) (by omega)
  clear h2
  have hlt := hm.lt
  clear hm
  go_enter Tryz.func219, Tryz.ntmps219
  go_wp2_with (first | (go_at_call 199; refine (HS.out _).mono ?_; rintro e w' ⟨rfl, rfl⟩) | (go_at_call 223; refine (tail_any _ _ (by omega) (by omega)).mono ?_; rintro e w' ⟨rfl, rfl⟩))
  refine bodyPost_ret (v := .agg (fourB (224 + n / 64 / 64) (128 + n / 64 % 64) (128 + n % 64) 0)) (by simp [results, Tryz.results219, go_sem]) rfl ⟨?_, ((Below.refl _ _).alloc (Nat.le_refl _) _).alloc (by simp) _⟩
  exact ret_four (by omega) (by omega) (by omega) (by omega)
set_option maxHeartbeats 400000 in
theorem spell_four (n : Int) (w : World) (hm : Marks w) (h0 : 65536 ≤ n) (h1 : n ≤ 1114111) :
    Calls Tryz.prog 219 #[.int .i64 n] w fun e w' => e = .returned (.agg (fourB (240 + n / 262144) (128 + n / 4096 % 64) (128 + n / 64 % 64) (128 + n % 64))) ∧ Below w.heap.size w w' := by
  have HS := Lib.hid (sizeOf_is n 4 (by rw [putL_four h0 h1]; rfl))
  have m1 : w.cell? ⟨2, 4, none⟩ = some (.int .i64 240) := marks_cell hm 4 (by decide)
  have e1 := or_240 (n / 64 / 64 / 64) (by omega)
  have hlt := hm.lt
  clear hm
  go_enter Tryz.func219, Tryz.ntmps219
  go_wp2_with (first | (go_at_call 199; refine (HS.out _).mono ?_; rintro e w' ⟨rfl, rfl⟩) | (go_at_call 223; refine (tail_any _ _ (by omega) (by omega)).mono ?_; rintro e w' ⟨rfl, rfl⟩))
  refine bodyPost_ret (v := .agg (fourB (240 + n / 64 / 64 / 64) (128 + n / 64 / 64 % 64) (128 + n / 64 % 64) (128 + n % 64))) (by simp [results, Tryz.results219, go_sem]) rfl ⟨?_, ((Below.refl _ _).alloc (Nat.le_refl _) _).alloc (by simp) _⟩
  exact ret_four (by omega) (by omega) (by omega) (by omega)
theorem spell_any (n : Int) (w : World) (hm : Marks w) :
    Calls Tryz.prog 219 #[.int .i64 n] w fun e w' => e = .returned (.agg (ints .u8 (spL n)).toArray) ∧ Below w.heap.size w w' := by
  rcases putL_cases n with ⟨h, h'⟩ | ⟨h1, h2, h⟩ | ⟨h1, h2, h⟩ | ⟨h1, h2, h3, h⟩ | ⟨h1, h2, h⟩
  · rw [spL_none h']; exact spell_none n w h
  · rw [spL_one h1 h2]; exact spell_one n w hm h1 h2
  · rw [spL_two h1 h2]; exact spell_two n w hm h1 h2
  · rw [spL_three h1 h2 h3]; exact spell_three n w hm h1 h2 h3
  · rw [spL_four h1 h2]; exact spell_four n w hm h1 h2
/-! ### Put -/
theorem length_spL (n : Int) : (spL n).length = 4 := by
  have := putL_len n
  unfold spL
  rw [List.length_append, List.length_replicate]; omega
theorem spL_take (n : Int) : (spL n).take (putL n).length = putL n := by simp [spL]
set_option maxHeartbeats 400000 in
theorem put_any (n : Int) (w : World) (hm : Marks w) :
    Calls Tryz.prog 209 #[.int .i64 n] w fun e w' => e = .returned (.string (toS (putL n))) ∧ Below w.heap.size w w' := by
  have hlen := putL_len n
  have HSZ := Lib.hid (fun W : World => sizeOf_any n W)
  have HSP := Lib.hid (spell_any n w hm)
  obtain ⟨a, b, c, d, h4⟩ : ∃ a b c d, spL n = [a, b, c, d] := by
    have := length_spL n
    match h : spL n, this with
    | [a, b, c, d], _ => exact ⟨a, b, c, d, rfl⟩
  have hcv : ∀ W : World, (convert 80 9 (.slice (some ⟨W.heap.size, 0, none⟩) (putL n).length 4)).run Tryz.prog (W.alloc (.cells #[.int .u8 a, .int .u8 b, .int .u8 c, .int .u8 d] 259)) = .ok (.string (toS (putL n))) (W.alloc (.cells #[.int .u8 a, .int .u8 b, .int .u8 c, .int .u8 d] 259)) := fun W =>
    conv_str _ (putL n) _ 4 _ rfl (by
      have := (Lies.whole (w := W.alloc (.cells #[.int .u8 a, .int .u8 b, .int .u8 c, .int .u8 d] 259)) (b := W.heap.size) (t := 259) (xs := [a, b, c, d]) (heap_alloc_new W _)).take (putL n).length
      rw [← h4, spL_take] at this
      exact this)
  have hsl := fun (g : Nat) => run_sliceAt_to (P := Tryz.prog) 259 5 4 Tryz.underlying259 (by kernel_rfl) g 0 (putL n).length (by decide) hlen .i64
  obtain ⟨k, hk⟩ : ∃ k, k = (putL n).length := ⟨_, rfl⟩
  rw [← hk] at hcv hsl HSZ hlen
  obtain ⟨S, hS⟩ : ∃ S, S = toS (putL n) := ⟨_, rfl⟩
  rw [← hS] at hcv ⊢
  rw [h4] at HSP
  clear hk hS hm h4
  go_enter Tryz.func209, Tryz.ntmps209
  go_wp2_with (first | (go_at_call 199; refine (HSZ.out _).mono ?_; rintro e w' ⟨rfl, rfl⟩) | (go_at_call 219; refine HSP.out.mono ?_; rintro e w1 ⟨rfl, hb⟩; have HB := Lib.hid hb; clear hb; simp only [ints, List.map_cons, List.map_nil]))
  go_ret
  exact ⟨rfl, HB.out.alloc HB.out.size _⟩
end Go.Proofs.YtjfgmgkhinehaaaGreatDoor
namespace Go.Proofs.YtjfgmgkhinehaaaGreatDoor
open Go Go.RowKit
theorem accL_bd (c0 : Int) (l : List Int) (h : 0 ≤ c0 ∧ c0 ≤ 255) : ∀ i, 0 ≤ accL c0 l i ∧ accL c0 l i < 256 * 64 ^ i
  | 0 => by show 0 ≤ c0 ∧ c0 < 256 * 64 ^ 0; omega
  | i + 1 => by
    have := accL_bd c0 l h i
    rw [accL, Int.pow_succ]
    omega
theorem marksub_bd (c : Int) (h : 0 ≤ c ∧ c ≤ 255) : 0 ≤ c - markL (wantL c) ∧ c - markL (wantL c) ≤ 255 := by
  unfold wantL
  split
  · show 0 ≤ c - 240 ∧ _ ≤ _; unfold markL; simp; omega
  · split
    · show 0 ≤ c - 224 ∧ _ ≤ _; unfold markL; simp; omega
    · split
      · show 0 ≤ c - 192 ∧ _ ≤ _; unfold markL; simp; omega
      · show 0 ≤ c - 0 ∧ _ ≤ _; unfold markL; simp; omega
theorem begin_empty (w : World) :
    Calls Tryz.prog 213 #[.string ⟨#[]⟩] w fun e w' => e = .returned (.tuple #[.int .i64 (-1), .int .i64 0]) ∧ Below w.heap.size w w' := by
  go_enter Tryz.func213, Tryz.ntmps213
  go_wp2
  go_ret2
  exact ⟨rfl, Below.refl _ _⟩
theorem notEmpty {s : ByteArray} (h : 0 < s.size) : s.toList.isEmpty = false := by
  rw [ByteArray.toList_eq]
  cases hd : s.data.toList with
  | nil =>
    have : s.size = s.data.toList.length := by simp
    rw [hd] at this
    rw [this] at h
    exact absurd h (by decide)
  | cons => rfl
/-- What the beginning of a text tells. -/
structure BeginOf (s : ByteArray) (k : Nat) : Prop where
  pos : 0 < s.size
  want : wantL ((strL s).getD 0 0) = k + 1
  le : k ≤ 3
theorem beginOf {s : ByteArray} (h : 0 < s.size) : ∃ k, BeginOf s k := by
  have hw := wantL_bd ((strL s).getD 0 0)
  exact ⟨wantL ((strL s).getD 0 0) - 1, h, by omega, by omega⟩
theorem BeginOf.call {s : ByteArray} {k : Nat} (h : BeginOf s k) (h0 : 0 < s.size) (W : World) (hM : Marks W) :
    Calls Tryz.prog 221 #[.int .u8 ((s[0]'h0).toNat : Int)] W fun e w' => e = .returned (.int .i64 (k : Int)) ∧ W = w' := by
  have hb := (strL_bd s) 0
  have := wanted_any ((strL s).getD 0 0) W hM hb.1 hb.2
  rw [h.want, Nat.add_sub_cancel, strL_get s 0 h.pos] at this
  exact this
set_option maxHeartbeats 1000000 in
theorem begin_short (s : ByteArray) (w : World) (hm : Marks w) (h0 : 0 < s.size) (hs : s.size < wantL ((strL s).getD 0 0)) :
    Calls Tryz.prog 213 #[.string s] w fun e w' => e = .returned (.tuple #[.int .i64 (-1), .int .i64 1]) ∧ Below w.heap.size w w' := by
  obtain ⟨k, hk⟩ := beginOf h0
  rw [hk.want] at hs
  have HW := Lib.hid (fun W (hM : Marks W) => hk.call h0 W hM)
  have hk4 := hk.le
  have hE := notEmpty h0
  have HM := Lib.hid hm
  clear hm hk
  go_enter Tryz.func213, Tryz.ntmps213
  go_wp2_with (go_at_call 221; refine (HW.out _ HM.out).mono ?_; rintro e w' ⟨rfl, rfl⟩)
  go_ret2
  exact ⟨rfl, Below.refl _ _⟩
theorem pow64 (j : Nat) (h : j ≤ 3) : (64 : Int) ^ j ≤ 262144 := by
  match j, h with
  | 0, _ => decide
  | 1, _ => decide
  | 2, _ => decide
  | 3, _ => decide
theorem belowDN (w : World) (n : Nat) : Below w.heap.size w (w.drewN n) := below_drewN (Below.refl _ _) n
theorem or_low (x y : Int) (h0 : 0 ≤ x ∧ x < 140737488355328) (h1 : 0 ≤ y ∧ y < 64) : bits .or .i64 (x * 64) y = x * 64 + y := or_above x y 6 h1.1 (by omega) h0.1 (by omega)
set_option maxRecDepth 100000 in
set_option maxHeartbeats 2000000 in
theorem begin_long (s : ByteArray) (w : World) (hm : Marks w) (h0 : 0 < s.size) (hsz : s.size ≤ 9223372036854775807) (hs : wantL ((strL s).getD 0 0) ≤ s.size) :
    Calls Tryz.prog 213 #[.string s] w fun e w' => e = .returned (.tuple #[.int .i64 (nxL (strL s)).1, .int .i64 ((nxL (strL s)).2 : Int)]) ∧ Below w.heap.size w w' := by
  obtain ⟨k, hk⟩ := beginOf h0
  have hb0 := (strL_bd s) 0
  have hms := marksub_bd _ hb0
  have hacc := accL_bd ((strL s).getD 0 0 - markL (k + 1)) (strL s) (by rw [← hk.want]; exact hms)
  rw [hk.want] at hs hms
  rw [strL_get s 0 h0] at hms
  have HC : Hid (candL (strL s) = accL ((strL s).getD 0 0 - markL (k + 1)) (strL s) k) := Lib.hid (by unfold candL; rw [hk.want, Nat.add_sub_cancel])
  have HG0 : Hid ((strL s).getD 0 0 = ((s[0]'h0).toNat : Int)) := Lib.hid (strL_get s 0 h0)
  have HW := Lib.hid (fun W (hM : Marks W) => hk.call h0 W hM)
  have hk4 := hk.le
  have hE := notEmpty h0
  have HM := Lib.hid hm
  have m1 : w.cell? ⟨2, k + 1, none⟩ = some (.int .i64 (markL (k + 1))) := marks_cell hm (k + 1) (by omega)
  have HWANT := Lib.hid hk.want
  have hmk : 0 ≤ markL (k + 1) ∧ markL (k + 1) ≤ 240 := by unfold markL; split <;> (try split) <;> (try split) <;> omega
  obtain ⟨m, hmm⟩ : ∃ m, m = markL (k + 1) := ⟨_, rfl⟩
  rw [← hmm] at m1 hms hacc HC hmk
  have HA := Lib.hid hacc
  have h1k : (1 : Int) + (k : Int) = ((k + 1 : Nat) : Int) := by omega
  clear hm hk hb0 hmm hacc
  go_enter Tryz.func213, Tryz.ntmps213
  go_wp2_with (go_at_call 221; refine (HW.out _ HM.out).mono ?_; rintro e w' ⟨rfl, rfl⟩)
  go_quiet (fail)
  go_wp2
  go_loopw [2, 4] (fun x i wr => Below w.heap.size w wr ∧ ∃ j : Nat, j ≤ k ∧ i = .int .i64 ((j + 1 : Nat) : Int) ∧ x = .int .i64 (accL ((strL s).getD 0 0 - m) (strL s) j)) (fun _ i _ => k + 1 - (intOf i).toNat)
  case atStart => exact ⟨belowDN w _, 0, by omega, rfl, by rw [HG0.out]; rfl⟩
  case round =>
    obtain ⟨hbel, j, hj, rfl, rfl⟩ := hrel
    have HB := Lib.hid hbel
    clear hbel
    by_cases hlt : j < k
    · have ha := HA.out j
      have h64 := pow64 j (by omega)
      have ha2 : accL ((strL s).getD 0 0 - m) (strL s) j < 140737488355328 := by
        omega
      obtain ⟨ha1, _⟩ := ha
      have HN : Hid (accL ((strL s).getD 0 0 - m) (strL s) (j + 1) = accL ((strL s).getD 0 0 - m) (strL s) j * 64 + ((s[j + 1]'(by omega)).toNat : Int) % 64) := Lib.hid (by rw [accL, strL_get s (j + 1) (by omega)])
      obtain ⟨x, hx⟩ : ∃ x, x = accL ((strL s).getD 0 0 - m) (strL s) j := ⟨_, rfl⟩
      rw [← hx] at ha1 ha2 HN ⊢
      have hu := (s[j + 1]'(by omega)).toNat_lt
      have e1 := and_mask_i64 ((s[j + 1]'(by omega)).toNat : Int) 6 (by decide) (by omega) (by omega)
      replace e1 : bits .and .i64 ((s[j + 1]'(by omega)).toNat : Int) 63 = ((s[j + 1]'(by omega)).toNat : Int) % 64 := e1
      have e2 := or_low x (((s[j + 1]'(by omega)).toNat : Int) % 64) ⟨ha1, ha2⟩ (by omega)
      clear hx h64
      go_wp2
      go_roundw
      case rel => exact ⟨HB.out, j + 1, by omega, by go_num, by rw [HN.out]⟩
      case measure => simp [intOf]; omega
    · obtain rfl : j = k := by omega
      have HML := Lib.hid (HM.out.below HB.out)
      have HPUT := Lib.hid (fun (W : World) (hM : Marks W) => put_any (candL (strL s)) W hM)
      rw [HC.out] at HPUT
      have hnx : Hid (nxL (strL s) = if putL (candL (strL s)) = (strL s).take (j + 1) then (candL (strL s), j + 1) else (-1, 1)) := Lib.hid (by
        have hl := length_strL s
        unfold nxL
        rw [HWANT.out, if_neg (by omega), if_neg (by omega)])
      have hcand : -1 ≤ candL (strL s) := by
        rw [HC.out]
        have := (HA.out j).1
        omega
      by_cases hp : putL (candL (strL s)) = (strL s).take (j + 1)
      · have HR : Hid (nxL (strL s) = (candL (strL s), j + 1)) := Lib.hid (by rw [hnx.out, if_pos hp])
        have heq : ((toS (putL (candL (strL s)))).toList == (s.extract 0 (j + 1)).toList) = true := by
          rw [eq_toList, decide_eq_true_eq, hp]
          exact strL_inj (by rw [strL_toS ((strL_bd s).take _), strL_extract, List.drop_zero])
        rw [HC.out] at heq HR
        obtain ⟨L, hL⟩ : ∃ L, L = accL ((strL s).getD 0 0 - m) (strL s) j := ⟨_, rfl⟩
        rw [← hL] at heq HR HPUT ⊢
        obtain ⟨T, hT⟩ : ∃ T, T = toS (putL L) := ⟨_, rfl⟩
        rw [← hT] at heq HPUT
        clear hp hnx hL hcand hT
        go_wp2_with fail
        have b0 : (0 : Int) ≤ (j : Int) + 1 := by omega
        have b1 : (j : Int) + 1 ≤ (s.size : Int) := by omega
        have b2 : ((j : Int) + 1).toNat = j + 1 := by omega
        go_region_held3 (fun W => Below wr.heap.size wr W) (first | exact (Below.refl _ _).drew | exact Below.trans (by assumption) (hb.mono (Below.size (by assumption))) | go_keep)
          (first | (go_at_call 209; refine (HPUT.out _ (HML.out.below ‹_›)).mono ?_; rintro e w' ⟨rfl, hb⟩))
        have HW' := Lib.hid (‹Below wr.heap.size wr _›)
        clear b0 b1 b2 hb
        go_wp2_with fail
        go_ret2
        rw [HR.out]
        exact ⟨rfl, HB.out.trans (HW'.out.mono HB.out.size)⟩
      · have HR : Hid (nxL (strL s) = (-1, 1)) := Lib.hid (by rw [hnx.out, if_neg hp])
        have heq : ((toS (putL (candL (strL s)))).toList == (s.extract 0 (j + 1)).toList) = false := by
          rw [eq_toList, decide_eq_false_iff_not]
          intro e
          have e2 := (eq_toS (putL_bytes _)).1 e.symm
          rw [strL_extract, List.drop_zero] at e2
          exact hp e2.symm
        rw [HC.out] at heq
        obtain ⟨L, hL⟩ : ∃ L, L = accL ((strL s).getD 0 0 - m) (strL s) j := ⟨_, rfl⟩
        rw [← hL] at heq HPUT ⊢
        obtain ⟨T, hT⟩ : ∃ T, T = toS (putL L) := ⟨_, rfl⟩
        rw [← hT] at heq HPUT
        clear hp hnx hL hcand hT
        go_wp2_with fail
        have b0 : (0 : Int) ≤ (j : Int) + 1 := by omega
        have b1 : (j : Int) + 1 ≤ (s.size : Int) := by omega
        have b2 : ((j : Int) + 1).toNat = j + 1 := by omega
        go_region_held3 (fun W => Below wr.heap.size wr W) (first | exact (Below.refl _ _).drew | exact Below.trans (by assumption) (hb.mono (Below.size (by assumption))) | go_keep)
          (first | (go_at_call 209; refine (HPUT.out _ (HML.out.below ‹_›)).mono ?_; rintro e w' ⟨rfl, hb⟩))
        have HW' := Lib.hid (‹Below wr.heap.size wr _›)
        clear b0 b1 b2 hb
        go_wp2_with fail
        go_ret2
        rw [HR.out]
        exact ⟨rfl, HB.out.trans (HW'.out.mono HB.out.size)⟩
theorem begin_any (s : ByteArray) (w : World) (hm : Marks w) (hs : s.size ≤ 9223372036854775807) :
    Calls Tryz.prog 213 #[.string s] w fun e w' => e = .returned (.tuple #[.int .i64 (nxL (strL s)).1, .int .i64 ((nxL (strL s)).2 : Int)]) ∧ Below w.heap.size w w' := by
  have hl := length_strL s
  rcases Nat.eq_zero_or_pos s.size with h0 | h0
  · have e : s = ⟨#[]⟩ := strL_inj (by rw [List.eq_nil_of_length_eq_zero (hl.trans h0)]; rfl)
    subst e
    exact begin_empty w
  · rcases Nat.lt_or_ge s.size (wantL ((strL s).getD 0 0)) with h1 | h1
    · have : nxL (strL s) = (-1, 1) := by
        unfold nxL
        rw [if_neg (by omega), if_pos (by omega)]
      rw [this]
      exact begin_short s w hm h0 h1
    · exact begin_long s w hm h0 hs h1
end Go.Proofs.YtjfgmgkhinehaaaGreatDoor
namespace Go.Proofs.YtjfgmgkhinehaaaGreatDoor
open Go Go.RowKit
theorem runL_take : ∀ (l : List Int), runL (l.take (runL l)) = runL l
  | [] => rfl
  | c :: r => by
    by_cases h : isD c = true
    · have e : runL (c :: r) = runL r + 1 := by rw [runL, if_pos h]
      rw [e, List.take_succ_cons, runL, if_pos h, runL_take r]
    · have e : runL (c :: r) = 0 := by rw [runL, if_neg h]
      rw [e]; rfl
theorem getD_take0 (r : List Int) (k : Nat) (h : 0 < k) : (r.take k).getD 0 0 = r.getD 0 0 := by
  cases r with
  | nil => simp
  | cons a t => obtain ⟨j, rfl⟩ : ∃ j, k = j + 1 := ⟨k - 1, by omega⟩; rfl
/-- What leads is a number's text. -/
theorem form_lead_take {l : List Int} (h : leadL l ≠ 0) : formL (l.take (leadL l)) = true := by
  have hle := leadL_le l
  unfold formL
  rw [decide_eq_true_eq]
  have hlen : (l.take (leadL l)).length = leadL l := by rw [List.length_take]; omega
  refine ⟨fun e => by rw [e] at hlen; exact h hlen.symm, ?_⟩
  rw [hlen]
  cases l with
  | nil => rfl
  | cons c r =>
    have e : leadL (c :: r) = if c = 45 then (if 49 ≤ r.getD 0 0 ∧ r.getD 0 0 ≤ 57 then runL r + 1 else 0) else if c = 48 then 1 else runL (c :: r) := by rw [leadL]
    by_cases h45 : c = 45
    · subst h45
      by_cases hd : 49 ≤ r.getD 0 0 ∧ r.getD 0 0 ≤ 57
      · rw [if_pos rfl, if_pos hd] at e
        rw [e, List.take_succ_cons, leadL, if_pos rfl, getD_take0 r _ (by
          cases r with
          | nil => simp at hd
          | cons a t => rw [List.getD_cons_zero] at hd; rw [runL, if_pos (isD_iff.2 (by omega))]; omega), if_pos hd, runL_take]
      · rw [if_pos rfl, if_neg hd] at e
        exact absurd e h
    · rw [if_neg h45] at e
      by_cases h48 : c = 48
      · subst h48
        rw [if_pos rfl] at e
        rw [e]; rfl
      · rw [if_neg h48] at e
        have hr : runL (c :: r) ≠ 0 := by rw [← e]; exact h
        obtain ⟨j, hj⟩ : ∃ j, runL (c :: r) = j + 1 := ⟨runL (c :: r) - 1, by omega⟩
        have ht := runL_take (c :: r)
        rw [e]
        rw [hj] at ht ⊢
        rw [List.take_succ_cons] at ht ⊢
        rw [leadL, if_neg h45, if_neg h48]
        exact ht
end Go.Proofs.YtjfgmgkhinehaaaGreatDoor
