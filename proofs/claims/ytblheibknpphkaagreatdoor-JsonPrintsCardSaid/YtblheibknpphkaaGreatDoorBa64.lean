/- JsonRight: merged. -/
import Derived.Test.YtblheibknpphkaaGreatDoorBa09
import Derived.Test.YtblheibknpphkaaGreatDoorBa63
set_option linter.all false
namespace Go.Proofs.YtblheibknpphkaaGreatDoor
open Go Go.RowKit
/-- What Right tells. -/
def RRPost (W : World) (r : Bool × Int) (e : Ending) (w' : World) : Prop := ∃ m, e = .returned (.tuple #[.bool r.1, .int .i64 m]) ∧ (r.1 = true → m = r.2) ∧ Below W.heap.size W w'
def RRAsk (j : J) : Prop := ∀ (d left : Int) (W : World) (v : Value), RepJ W j v → 1 ≤ d → d ≤ 9 → 0 ≤ left → left ≤ 256 → Calls Tryz.prog 39 #[v, .int .i64 d, .int .i64 left] W (RRPost W (rgt j d left))
theorem badR_utf (s : ByteArray) : (badR (strL s) < 0 ↔ utfS s = true) := by
  unfold badR utfS
  by_cases h : badU (strL s) = (strL s).length
  · rw [if_pos h, decide_eq_true h]; exact ⟨fun _ => rfl, fun _ => by decide⟩
  · rw [if_neg h, decide_eq_false h]; simp
set_option maxRecDepth 100000 in
set_option maxHeartbeats 16000000 in
theorem refRight_leaf (kind n : Int) (s : ByteArray) (l : List J) (k : List ByteArray) (ih : ∀ x ∈ l, RRAsk x) (hk4 : ¬ (kind = 4 ∨ kind = 5)) : RRAsk (.mk kind n s l k) := fun d left W v hj d1 d9 h0 h1 => by
  obtain ⟨vk, A, c, rfl, hs, hkk, hl, hc⟩ := hj.open
  obtain ⟨K, dd, rfl, hkl, hkc⟩ := hkk.open
  obtain ⟨r, hr⟩ : ∃ r, r = rgt (.mk kind n s l k) d left := ⟨_, rfl⟩
  have hrg := hr
  rw [rgt] at hrg
  rw [← hr]
  obtain ⟨p, hp⟩ : ∃ p, p = l.length := ⟨_, rfl⟩
  obtain ⟨q, hq⟩ : ∃ q, q = k.length := ⟨_, rfl⟩
  change Calls _ _ #[.agg #[.int .i64 kind, .int .i64 n, .string s, .slice A l.length c, .slice K k.length dd], _, _] _ _
  replace hs : s.size ≤ 9223372036854775807 := hs
  replace hkc : ∀ i (hi : i < k.length), ∃ b o, K = some ⟨b, o, none⟩ ∧ b < W.heap.size ∧ k[i].size ≤ 9223372036854775807 ∧ W.cell? ⟨b, o + i, none⟩ = some (.string k[i]) := hkc
  replace hc : l ≠ [] → ∃ b o, A = some ⟨b, o, none⟩ ∧ b < W.heap.size ∧ RepC W b o l := hc
  replace hl : l.length ≤ 9223372036854775807 := hl
  replace hkl : k.length ≤ 9223372036854775807 := hkl
  have HKC := Lib.hid hkc
  have HC := Lib.hid hc
  have HIH := Lib.hid ih
  rw [← hp] at hl
  rw [← hq] at hkl
  rw [← hp, ← hq, cleanF_eq] at hrg
  rw [← hp, ← hq]
  have HRG := Lib.hid hrg
  have HP := Lib.hid hp
  have HQ := Lib.hid hq
  obtain ⟨B, hBB⟩ : ∃ z, z = W.heap.size := ⟨_, rfl⟩
  obtain ⟨w2, hw2⟩ : ∃ z, z = W.alloc (.cells #[.int .i64 kind, .int .i64 n, .string s, .slice A p c, .slice K q dd] 26) := ⟨_, rfl⟩
  have hX2 : Blk w2 B 26 [.int .i64 kind, .int .i64 n, .string s, .slice A p c, .slice K q dd] := by rw [hw2, hBB]; exact heapAtJ W _ _
  have HB2 : Hid (Below W.heap.size W w2) := Lib.hid (by rw [hw2]; exact belowAlloc W _)
  have HX := Lib.hid hX2
  have HW2 := Lib.hid hw2
  have HBB := Lib.hid hBB
  obtain ⟨c0, c1, c2, c3, c4⟩ : w2.cell? ⟨B, 0, none⟩ = some (.int .i64 kind) ∧ w2.cell? ⟨B, 1, none⟩ = some (.int .i64 n) ∧ w2.cell? ⟨B, 2, none⟩ = some (.string s) ∧ w2.cell? ⟨B, 3, none⟩ = some (.slice A p c) ∧ w2.cell? ⟨B, 4, none⟩ = some (.slice K q dd) := ⟨hX2.cell 0, hX2.cell 1, hX2.cell 2, hX2.cell 3, hX2.cell 4⟩
  have HSTR := Lib.hid (fun (h : s ≠ ⟨#[]⟩) => str_full h)
  have HBADS := Lib.hid (fun W : World => refBad_any s W hs)
  have HUTS := Lib.hid (badR_utf s)
  obtain ⟨bs, hbs⟩ : ∃ b, b = badR (strL s) := ⟨_, rfl⟩
  rw [← hbs] at HBADS HUTS
  obtain ⟨us, hus⟩ : ∃ b, b = utfS s := ⟨_, rfl⟩
  rw [← hus] at HUTS
  have HUS := Lib.hid hus
  have HIq : Hid ((0 : Int) ≤ (q : Int) ∧ (0 : Int) ≤ (p : Int)) := Lib.hid (by omega)
  clear hj hkk hc ih hr hrg hp hq hX2 hw2 hBB hkc hbs hus
  go_enter Tryz.func39, Tryz.ntmps39
  go_upto_region 1 with fail
  rw [show W.alloc (.cells #[.int .i64 kind, .int .i64 n, .string s, .slice A p c, .slice K q dd] 26) = w2 from HW2.out.symm, show W.heap.size = B from HBB.out.symm]
  by_cases hA : left - 1 < 0
  · have HR : Hid (r = (false, left - 1)) := Lib.hid (by rw [HRG.out, if_pos (.inl hA)])
    go_wp2
    go_ret2
    rw [HR.out]
    exact ⟨_, rfl, fun h => (by cases h), HB2.out⟩
  by_cases hk : kind = 0 ∨ kind = 1 ∨ kind = 2 ∨ kind = 3
  · by_cases hL : (0 : Int) < (p : Int)
    · have HR : Hid (r = (false, left - 1)) := Lib.hid (by rw [HRG.out, if_pos (.inr (by simp; omega))])
      rcases hk with rfl | rfl | rfl | rfl
      all_goals (go_wp2; go_ret2; rw [HR.out]; exact ⟨_, rfl, fun h => (by cases h), HB2.out⟩)
    by_cases hQ : (0 : Int) < (q : Int)
    · have HR : Hid (r = (false, left - 1)) := Lib.hid (by rw [HRG.out, if_pos (.inr (by simp; omega))])
      rcases hk with rfl | rfl | rfl | rfl
      all_goals (go_wp2; go_ret2; rw [HR.out]; exact ⟨_, rfl, fun h => (by cases h), HB2.out⟩)
    have hp0 : p = 0 := by omega
    have hq0 : q = 0 := by omega
    by_cases hk3 : kind = 3
    · subst hk3
      by_cases hn0 : n = 0
      · subst hn0
        have HR : Hid (r = (us, left - 1)) := Lib.hid (by rw [HRG.out, hp0, hq0, if_neg (by simp; omega), if_neg (by simp), if_neg (by simp)]; simp [leafR, HUS.out])
        cases us with
        | true =>
          have hbl : bs < 0 := HUTS.out.2 rfl
          have dbl : decide (bs < 0) = true := decide_eq_true hbl
          go_wp2_with (go_at_call 74; (with_reducible refine (HBADS.out _).mono ?_); rintro e w3 ⟨rfl, hb3⟩; have HB3 := Lib.hid (HB2.out.trans (hb3.mono HB2.out.size)); clear hb3)
          go_ret2
          rw [HR.out]
          exact ⟨_, rfl, fun _ => rfl, HB3.out⟩
        | false =>
          have hbl : ¬ bs < 0 := fun h => by have := HUTS.out.1 h; cases this
          have dbl : decide (bs < 0) = false := decide_eq_false hbl
          go_wp2_with (go_at_call 74; (with_reducible refine (HBADS.out _).mono ?_); rintro e w3 ⟨rfl, hb3⟩; have HB3 := Lib.hid (HB2.out.trans (hb3.mono HB2.out.size)); clear hb3)
          go_ret2
          rw [HR.out]
          exact ⟨_, rfl, fun h => (by cases h), HB3.out⟩
      · have gn : (n == 0) = false := by rw [beq_eq_false_iff_ne]; exact hn0
        have HR : Hid (r = (false, left - 1)) := Lib.hid (by rw [HRG.out, if_pos (.inr (by simp [hn0]))])
        go_wp2
        go_ret2
        rw [HR.out]
        exact ⟨_, rfl, fun h => (by cases h), HB2.out⟩
    have g3 : (kind == 3) = false := by rw [beq_eq_false_iff_ne]; exact hk3
    by_cases hse : s = ⟨#[]⟩
    case neg =>
      obtain ⟨t1, t2, t3⟩ := HSTR.out hse
      have HR : Hid (r = (false, left - 1)) := Lib.hid (by rw [HRG.out, if_pos (.inr (by simp [hse, hk3]))])
      rcases hk with rfl | rfl | rfl | rfl
      · (go_wp2; go_ret2; rw [HR.out]; exact ⟨_, rfl, fun h => (by cases h), HB2.out⟩)
      · (go_wp2; go_ret2; rw [HR.out]; exact ⟨_, rfl, fun h => (by cases h), HB2.out⟩)
      · (go_wp2; go_ret2; rw [HR.out]; exact ⟨_, rfl, fun h => (by cases h), HB2.out⟩)
      · exact absurd rfl hk3
    case pos =>
    subst hse
    rcases hk with rfl | rfl | rfl | rfl
    · by_cases hn0 : n = 0
      · subst hn0
        have HR : Hid (r = (true, left - 1)) := Lib.hid (by rw [HRG.out, hp0, hq0, if_neg (by simp; omega), if_neg (by simp), if_neg (by simp)]; simp [leafR])
        go_wp2
        go_ret2
        rw [HR.out]
        exact ⟨_, rfl, fun _ => rfl, HB2.out⟩
      · have gn : (n == 0) = false := by rw [beq_eq_false_iff_ne]; exact hn0
        have HR : Hid (r = (false, left - 1)) := Lib.hid (by rw [HRG.out, if_pos (.inr (by simp [hn0]))])
        go_wp2
        go_ret2
        rw [HR.out]
        exact ⟨_, rfl, fun h => (by cases h), HB2.out⟩
    · by_cases hn0 : n = 0
      · subst hn0
        have HR : Hid (r = (true, left - 1)) := Lib.hid (by rw [HRG.out, hp0, hq0, if_neg (by simp; omega), if_neg (by simp), if_neg (by simp)]; simp [leafR])
        go_wp2
        go_ret2
        rw [HR.out]
        exact ⟨_, rfl, fun _ => rfl, HB2.out⟩
      · have gn : (n == 0) = false := by rw [beq_eq_false_iff_ne]; exact hn0
        by_cases hn1 : n = 1
        · subst hn1
          have HR : Hid (r = (true, left - 1)) := Lib.hid (by rw [HRG.out, hp0, hq0, if_neg (by simp; omega), if_neg (by simp), if_neg (by simp)]; simp [leafR])
          go_wp2
          go_ret2
          rw [HR.out]
          exact ⟨_, rfl, fun _ => rfl, HB2.out⟩
        · have gn1 : (n == 1) = false := by rw [beq_eq_false_iff_ne]; exact hn1
          have HR : Hid (r = (false, left - 1)) := Lib.hid (by rw [HRG.out, hp0, hq0, if_neg (by simp; omega), if_neg (by simp), if_neg (by simp)]; simp [leafR, hn0, hn1])
          go_wp2
          go_ret2
          rw [HR.out]
          exact ⟨_, rfl, fun h => (by cases h), HB2.out⟩
    · by_cases hn0 : -9007199254740991 ≤ n
      · have dn0 : decide (-9007199254740991 ≤ n) = true := decide_eq_true hn0
        by_cases hn1 : n ≤ 9007199254740991
        · have dn1 : decide (n ≤ 9007199254740991) = true := decide_eq_true hn1
          have HR : Hid (r = (true, left - 1)) := Lib.hid (by rw [HRG.out, hp0, hq0, if_neg (by simp; omega), if_neg (by simp), if_neg (by simp)]; simp [leafR, hn0, hn1])
          go_wp2
          go_ret2
          rw [HR.out]
          exact ⟨_, rfl, fun _ => rfl, HB2.out⟩
        · have dn1 : decide (n ≤ 9007199254740991) = false := decide_eq_false hn1
          have HR : Hid (r = (false, left - 1)) := Lib.hid (by rw [HRG.out, hp0, hq0, if_neg (by simp; omega), if_neg (by simp), if_neg (by simp)]; simp [leafR, hn0, hn1])
          go_wp2
          go_ret2
          rw [HR.out]
          exact ⟨_, rfl, fun h => (by cases h), HB2.out⟩
      · have dn0 : decide (-9007199254740991 ≤ n) = false := decide_eq_false hn0
        have HR : Hid (r = (false, left - 1)) := Lib.hid (by rw [HRG.out, hp0, hq0, if_neg (by simp; omega), if_neg (by simp), if_neg (by simp)]; simp [leafR, hn0])
        go_wp2
        go_ret2
        rw [HR.out]
        exact ⟨_, rfl, fun h => (by cases h), HB2.out⟩
    · exact absurd rfl hk3
  have g0 : (kind == 0) = false := by rw [beq_eq_false_iff_ne]; omega
  have g1 : (kind == 1) = false := by rw [beq_eq_false_iff_ne]; omega
  have g2 : (kind == 2) = false := by rw [beq_eq_false_iff_ne]; omega
  have g3 : (kind == 3) = false := by rw [beq_eq_false_iff_ne]; omega
  · skip
    have g4 : (kind == 4) = false := by rw [beq_eq_false_iff_ne]; omega
    have g5 : (kind == 5) = false := by rw [beq_eq_false_iff_ne]; omega
    have HR : Hid (r = (false, left - 1)) := Lib.hid (by
      rw [HRG.out]
      (repeat' split)
      all_goals first | rfl | (exfalso; omega) | (unfold leafR; rw [if_neg (show ¬ kind = 0 by omega), if_neg (show ¬ kind = 1 by omega), if_neg (show ¬ kind = 2 by omega), if_neg (show ¬ kind = 3 by omega)]))
    go_wp2
    go_ret2
    rw [HR.out]
    exact ⟨_, rfl, fun h => (by cases h), HB2.out⟩
end Go.Proofs.YtblheibknpphkaaGreatDoor
