/- JpHex, JsonValue, JsonMoves, JpShort, JpMade, JsonPut: merged. -/
import Derived.Deep.AppendLies
import Derived.Test.YtjfgmgkhinehaaaGreatDoorCx07
set_option linter.all false
namespace Go.Proofs.YtjfgmgkhinehaaaGreatDoor
open Go Go.RowKit
set_option maxHeartbeats 1000000 in
theorem self_any (c : Int) (w : World) (h0 : 0 ≤ c) (h1 : c ≤ 255) : Calls Tryz.prog 189 #[.int .u8 c] w fun e w' => e = .returned (.bool (selfB c)) ∧ w = w' := by
  by_cases a : 32 ≤ c
  · by_cases b : c = 34
    · subst b
      go_enter Tryz.func189, Tryz.ntmps189
      go_wp2
      go_ret
      exact ⟨rfl, rfl⟩
    · by_cases d : c = 92
      · subst d
        go_enter Tryz.func189, Tryz.ntmps189
        go_wp2
        go_ret
        exact ⟨rfl, rfl⟩
      · have hs : selfB c = true := selfB_iff.2 ⟨a, b, d⟩
        rw [hs]
        have b1 : (c != 34) = true := by simpa using b
        have d1 : (c != 92) = true := by simpa using d
        clear hs b d
        go_enter Tryz.func189, Tryz.ntmps189
        go_wp2
        go_ret
        exact ⟨rfl, rfl⟩
  · have hs : selfB c = false := by
      cases h : selfB c with
      | false => rfl
      | true => exact absurd (selfB_iff.1 h).1 a
    rw [hs]
    have a1 : decide (32 ≤ c) = false := decide_eq_false a
    clear hs
    go_enter Tryz.func189, Tryz.ntmps189
    go_wp2
    go_ret
    exact ⟨rfl, rfl⟩
set_option maxHeartbeats 1000000 in
theorem hexWorth_any (c : Int) (w : World) (h0 : 0 ≤ c) (h1 : c ≤ 255) : Calls Tryz.prog 218 #[.int .u8 c] w fun e w' => e = .returned (.int .i64 (hexD c)) ∧ w = w' := by
  by_cases a : 48 ≤ c ∧ c ≤ 57
  · have hs : hexD c = c - 48 := if_pos a
    obtain ⟨a0, a1⟩ := a
    rw [hs]; clear hs
    go_enter Tryz.func218, Tryz.ntmps218
    go_wp2
    go_ret
    exact ⟨rfl, rfl⟩
  · have ha : (48 ≤ c → ¬ c ≤ 57) := fun x y => a ⟨x, y⟩
    by_cases b : 97 ≤ c ∧ c ≤ 102
    · have hs : hexD c = c - 97 + 10 := by unfold hexD; rw [if_neg a, if_pos b]
      obtain ⟨b0, b1⟩ := b
      have a0 : (48 : Int) ≤ c := by omega
      have a1 : decide (c ≤ 57) = false := decide_eq_false (by omega)
      rw [hs]; clear hs a ha
      go_enter Tryz.func218, Tryz.ntmps218
      go_wp2
      go_ret
      exact ⟨rfl, rfl⟩
    · by_cases d : 65 ≤ c ∧ c ≤ 70
      · have hs : hexD c = c - 65 + 10 := by unfold hexD; rw [if_neg a, if_neg b, if_pos d]
        obtain ⟨d0, d1⟩ := d
        have a0 : (48 : Int) ≤ c := by omega
        have a1 : decide (c ≤ 57) = false := decide_eq_false (by omega)
        have b0 : decide (97 ≤ c) = false := decide_eq_false (by omega)
        rw [hs]; clear hs a ha b
        go_enter Tryz.func218, Tryz.ntmps218
        go_wp2
        go_ret
        exact ⟨rfl, rfl⟩
      · have hs : hexD c = -1 := by unfold hexD; rw [if_neg a, if_neg b, if_neg d]
        rw [hs]; clear hs
        obtain ⟨X, hX⟩ : ∃ X, X = decide (48 ≤ c) := ⟨_, rfl⟩
        have hc : c < 48 ∨ (57 < c ∧ c < 65) ∨ (70 < c ∧ c < 97) ∨ 102 < c := by omega
        clear a ha b d hX
        rcases hc with hc | ⟨hc, hd⟩ | ⟨hc, hd⟩ | hc
        · have a1 : decide (48 ≤ c) = false := decide_eq_false (by omega)
          have a2 : decide (65 ≤ c) = false := decide_eq_false (by omega)
          have a3 : decide (97 ≤ c) = false := decide_eq_false (by omega)
          go_enter Tryz.func218, Tryz.ntmps218
          go_wp2
          go_ret
          exact ⟨rfl, rfl⟩
        · have a1 : decide (48 ≤ c) = true := decide_eq_true (by omega)
          have a4 : decide (c ≤ 57) = false := decide_eq_false (by omega)
          have a2 : decide (65 ≤ c) = false := decide_eq_false (by omega)
          have a3 : decide (97 ≤ c) = false := decide_eq_false (by omega)
          go_enter Tryz.func218, Tryz.ntmps218
          go_wp2
          go_ret
          exact ⟨rfl, rfl⟩
        · have a1 : decide (48 ≤ c) = true := decide_eq_true (by omega)
          have a4 : decide (c ≤ 57) = false := decide_eq_false (by omega)
          have a2 : decide (65 ≤ c) = true := decide_eq_true (by omega)
          have a5 : decide (c ≤ 70) = false := decide_eq_false (by omega)
          have a3 : decide (97 ≤ c) = false := decide_eq_false (by omega)
          go_enter Tryz.func218, Tryz.ntmps218
          go_wp2
          go_ret
          exact ⟨rfl, rfl⟩
        · have a1 : decide (48 ≤ c) = true := decide_eq_true (by omega)
          have a4 : decide (c ≤ 57) = false := decide_eq_false (by omega)
          have a2 : decide (65 ≤ c) = true := decide_eq_true (by omega)
          have a5 : decide (c ≤ 70) = false := decide_eq_false (by omega)
          have a3 : decide (97 ≤ c) = true := decide_eq_true (by omega)
          have a6 : decide (c ≤ 102) = false := decide_eq_false (by omega)
          go_enter Tryz.func218, Tryz.ntmps218
          go_wp2
          go_ret
          exact ⟨rfl, rfl⟩
end Go.Proofs.YtjfgmgkhinehaaaGreatDoor
namespace Go.Proofs.YtjfgmgkhinehaaaGreatDoor
open Go Go.RowKit
theorem wordL_le {l : List Int} : ∀ {x : List Int} {i : Nat}, (∀ c ∈ x, 0 ≤ c) → i ≤ l.length → (wordL l i x).1 ≤ l.length
  | [], i, _, hi => by rw [wordL]; exact hi
  | c :: r, i, hx, hi => by
    rw [wordL]
    split
    · rename_i h
      exact wordL_le (fun c hc => hx c (List.mem_cons_of_mem _ hc)) (atL_lt (by have := hx c (by simp); omega))
    · exact hi
theorem heapAt (w : World) {n : Nat} (h : w.heap.size = n) (cs : List Value) (t : TypeId) : Blk (w.alloc (.cells cs.toArray t)) n t cs := by
  subst h; exact heap_alloc_new w _
theorem quotedL_le (l : List Int) (i : Nat) (h : (quotedL l i).2.2 = 0) : (quotedL l i).2.1 ≤ l.length := by
  unfold quotedL at h ⊢
  split
  · rename_i hc; rw [if_pos hc] at h; exact absurd (show (50 : Int) = 0 from h) (by decide)
  · rename_i hc; rw [if_neg hc] at h; exact quotL_le l _ _ _ h
theorem quotL_len (l : List Int) : ∀ (f i : Nat) (out : List Int), (quotL l f i out).1.length ≤ out.length + 4 * f
  | 0, i, out => by rw [quotL]; simp
  | f + 1, i, out => by
    have h : ∀ (i : Nat) (x : List Int), x.length ≤ 4 → (quotL l f i (out ++ x)).1.length ≤ out.length + 4 * (f + 1) := fun i x hx => by
      have := quotL_len l f i (out ++ x)
      rw [List.length_append] at this; omega
    rw [quotL]
    split
    · simp
    · split
      · simp only; omega
      · split
        · split
          · simp
          · refine h _ _ ?_
            have := (nx_bd (l.drop i)).2.2.1
            rw [List.length_take]; omega
        · split
          · split
            · simp
            · exact h _ _ (by have := plain_len (atL l (i + 1)); omega)
          · split
            · simp
            · split
              · exact h _ _ (putL_len _)
              · split
                · simp
                · exact h _ _ (putL_len _)
theorem quotedL_len (l : List Int) (i : Nat) : (quotedL l i).1.length ≤ 4 * l.length + 4 := by
  unfold quotedL
  split
  · simp
  · have := quotL_len l (l.length + 1) (i + 1) []
    simp at this; omega
end Go.Proofs.YtjfgmgkhinehaaaGreatDoor
namespace Go.Proofs.YtjfgmgkhinehaaaGreatDoor
open Go Go.RowKit
/-- Nothing is wrong: it ends behind i, within l; no more may come than before. -/
def Moves (l : List Int) (i : Nat) (left : Int) (r : VR) : Prop := r.2.2.2 = 0 → i < r.2.1 ∧ r.2.1 ≤ l.length ∧ 0 ≤ r.2.2.1 ∧ r.2.2.1 ≤ left
theorem Moves.bad {l : List Int} {i : Nat} {left : Int} {v : J} {p : Nat} {n e : Int} (he : e ≠ 0) : Moves l i left (v, p, n, e) := fun h => absurd h he
theorem skipL_ge {l : List Int} {i : Nat} (h : i ≤ l.length) : i ≤ skipL l i ∧ skipL l i ≤ l.length := skipL_le l.length l i (by omega) h
theorem Moves.mono {l : List Int} {i j : Nat} {left left' : Int} {r : VR} (h : Moves l j left' r) (hi : i ≤ j) (hl : left' ≤ left) : Moves l i left r := fun he => by
  obtain ⟨h1, h2, h3, h4⟩ := h he
  exact ⟨by omega, h2, h3, by omega⟩
theorem wordL_ok {l : List Int} : ∀ {x : List Int} {i : Nat}, (wordL l i x).2 = 0 → (wordL l i x).1 = i + x.length
  | [], i, _ => by rw [wordL]; rfl
  | c :: r, i, h => by
    rw [wordL] at h ⊢
    split
    · rename_i hc; rw [if_pos hc] at h
      have := wordL_ok h
      rw [this, List.length_cons]; omega
    · rename_i hc; rw [if_neg hc] at h
      exact absurd (show (50 : Int) = 0 from h) (by decide)
theorem quotL_gt (l : List Int) : ∀ (f i : Nat) (out : List Int), (quotL l f i out).2.2 = 0 → i < (quotL l f i out).2.1
  | 0, i, out, h => by rw [quotL] at h; exact absurd (show (50 : Int) = 0 from h) (by decide)
  | f + 1, i, out, h => by
    rw [quotL] at h ⊢
    split
    · rename_i hc; rw [if_pos hc] at h; exact absurd (show (50 : Int) = 0 from h) (by decide)
    · rename_i hc; rw [if_neg hc] at h
      split
      · exact Nat.lt_succ_self i
      · rename_i h34; rw [if_neg h34] at h
        split
        · rename_i h92; rw [if_pos h92] at h
          split
          · rename_i hx; rw [if_pos hx] at h; exact absurd (show (50 : Int) = 0 from h) (by decide)
          · rename_i hx; rw [if_neg hx] at h
            have := quotL_gt l f _ _ h
            have hn := (nx_found (l := l.drop i) (by omega)).2.2.1
            omega
        · rename_i h92; rw [if_neg h92] at h
          split
          · rename_i hu; rw [if_pos hu] at h
            split
            · rename_i hx; rw [if_pos hx] at h; exact absurd (show (50 : Int) = 0 from h) (by decide)
            · rename_i hx; rw [if_neg hx] at h; have := quotL_gt l f _ _ h; omega
          · rename_i hu; rw [if_neg hu] at h
            split
            · rename_i hx; rw [if_pos hx] at h; exact absurd (show (50 : Int) = 0 from h) (by decide)
            · rename_i hx; rw [if_neg hx] at h
              split
              · rename_i hy; rw [if_pos hy] at h; have := quotL_gt l f _ _ h; omega
              · rename_i hy; rw [if_neg hy] at h
                split
                · rename_i hz; rw [if_pos hz] at h; exact absurd (show (50 : Int) = 0 from h) (by decide)
                · rename_i hz; rw [if_neg hz] at h; have := quotL_gt l f _ _ h; omega
theorem quotedL_gt (l : List Int) (i : Nat) (h : (quotedL l i).2.2 = 0) : i < (quotedL l i).2.1 := by
  unfold quotedL at h ⊢
  split
  · rename_i hc; rw [if_pos hc] at h; exact absurd (show (50 : Int) = 0 from h) (by decide)
  · rename_i hc; rw [if_neg hc] at h
    have := quotL_gt l _ _ _ h
    omega
theorem tellV_moves {l : List Int} {i : Nat} {left left' : Int} (hl : 0 ≤ left) (hll : left ≤ left') (v : J) (p : Nat × Int) (hp : p.2 = 0 → i < p.1 ∧ p.1 ≤ l.length) : Moves l i left' (tellV l left v p) := by
  unfold tellV
  split
  · rename_i h; exact .bad h
  · rename_i h
    have h0 : p.2 = 0 := by omega
    obtain ⟨h1, h2⟩ := hp h0
    have := skipL_ge h2
    exact fun _ => ⟨by show i < skipL l p.1; omega, this.2, hl, hll⟩
theorem valF_moves {l : List Int} {many : Nat → Int → VR} (hm : ∀ i left, i < l.length → 0 ≤ left → Moves l i left (many i left)) (i : Nat) (left : Int) (hi : i ≤ l.length) : Moves l i left (valF l many i left) := by
  unfold valF
  by_cases hb : beginsV (atL l i) = true
  · rw [if_neg (by rw [hb]; simp)]
    have hlt : i < l.length := atL_lt (by intro e; rw [e] at hb; revert hb; decide)
    split
    · exact .bad (by decide)
    · rename_i h1
      split
      · split
        · exact .bad (by decide)
        · rename_i hn
          have hle := leadL_le (l.drop i)
          rw [List.length_drop] at hle
          split
          · have := skipL_ge (l := l) (i := i + leadL (l.drop i)) (by omega)
            exact fun _ => ⟨by show i < skipL l _; omega, this.2, by show 0 ≤ left - 1; omega, by show left - 1 ≤ left; omega⟩
          · exact .bad (by decide)
      · have hw : ∀ (x : List Int), x ≠ [] → (∀ c ∈ x, 0 ≤ c) → (wordL l i x).2 = 0 → i < (wordL l i x).1 ∧ (wordL l i x).1 ≤ l.length := fun x hne hx h => by
          have h1 := wordL_ok h
          have h2 := wordL_le hx hi
          have := List.length_pos_iff.2 hne
          exact ⟨by omega, h2⟩
        split
        · exact tellV_moves (by omega) (by omega) _ _ (hw _ (by decide) (by decide))
        · split
          · exact tellV_moves (by omega) (by omega) _ _ (hw _ (by decide) (by decide))
          · split
            · exact tellV_moves (by omega) (by omega) _ _ (hw _ (by decide) (by decide))
            · split
              · exact tellV_moves (by omega) (by omega) _ _ (fun h => ⟨quotedL_gt l i h, quotedL_le l i h⟩)
              · exact (hm i (left - 1) hlt (by omega)).mono (Nat.le_refl _) (by omega)
  · rw [if_pos hb]
    exact .bad (by decide)
theorem manyGo_moves {l : List Int} {val : Nat → Int → VR} (hv : ∀ i left, i ≤ l.length → 0 ≤ left → Moves l i left (val i left)) (obj : Bool) : ∀ (f : Nat) (first : Bool) (i : Nat) (left : Int) (ks : List ByteArray) (vs : List J), i ≤ l.length → 0 ≤ left → Moves l i left (manyGo l val obj f first i left ks vs)
  | 0, first, i, left, ks, vs, _, _ => by rw [manyGo]; exact .bad (by decide)
  | f + 1, first, i, left, ks, vs, hi, hl => by
    have item : ∀ (a : Nat) (t : ByteArray), i ≤ a → a ≤ l.length → Moves l i left (itemL l val obj (manyGo l val obj f false) a left t ks vs) := fun a t ha hal => by
      unfold itemL
      by_cases he : (val a left).2.2.2 ≠ 0
      · rw [if_pos he]; exact .bad he
      · rw [if_neg he]
        obtain ⟨h1, h2, h3, h4⟩ := hv a left hal hl (by omega)
        by_cases hc : atL l (val a left).2.1 ≠ 44 ∧ atL l (val a left).2.1 ≠ (if obj = true then 125 else 93)
        · rw [if_pos hc]; exact .bad (by decide)
        · rw [if_neg hc]
          cases obj
          · exact (manyGo_moves hv false f false _ _ _ _ h2 h3).mono (by omega) h4
          · exact (manyGo_moves hv true f false _ _ _ _ h2 h3).mono (by omega) h4
    have memb : ∀ (a : Nat), i ≤ a → a ≤ l.length → Moves l i left (membL l val obj (manyGo l val obj f false) a left ks vs) := fun a ha hal => by
      unfold membL
      split
      · split
        · rename_i he; exact .bad he
        · rename_i he
          have h0 : (quotedL l a).2.2 = 0 := by omega
          have q1 := quotedL_gt l a h0
          have q2 := quotedL_le l a h0
          have s1 := skipL_ge q2
          split
          · exact .bad (by decide)
          · split
            · exact .bad (by decide)
            · rename_i h58
              have h3 := atL_lt (l := l) (i := skipL l (quotedL l a).2.1) (by omega)
              have s2 := skipL_ge (l := l) (i := skipL l (quotedL l a).2.1 + 1) (by omega)
              exact item _ _ (by omega) s2.2
      · exact item _ _ ha hal
    rw [manyGo]
    by_cases he : atL l i = (if obj = true then 125 else 93)
    · rw [if_pos he]
      have h3 := atL_lt (l := l) (i := i) (by rw [he]; cases obj <;> decide)
      have s2 := skipL_ge (l := l) (i := i + 1) (by omega)
      exact fun _ => ⟨by show i < skipL l (i + 1); omega, s2.2, hl, Int.le_refl _⟩
    · rw [if_neg he]
      split
      · exact memb _ (Nat.le_refl _) hi
      · split
        · exact .bad (by decide)
        · rename_i h44
          have h3 := atL_lt (l := l) (i := i) (by omega)
          have s2 := skipL_ge (l := l) (i := i + 1) (by omega)
          exact memb _ (by omega) s2.2
theorem valueL_moves (l : List Int) : ∀ (d i : Nat) (left : Int), i ≤ l.length → Moves l i left (valueL l d i left)
  | 0, i, left, hi => by rw [valueL]; exact valF_moves (fun i left _ _ => .bad (by decide)) i left hi
  | d + 1, i, left, hi => by
    rw [valueL]
    refine valF_moves (fun i left hi hl => ?_) i left hi
    unfold manyL
    have s := skipL_ge (l := l) (i := i + 1) (by omega)
    exact (manyGo_moves (fun i left hi _ => valueL_moves l d i left hi) _ _ _ _ _ _ _ s.2 hl).mono (by omega) (Int.le_refl _)
end Go.Proofs.YtjfgmgkhinehaaaGreatDoor
namespace Go.Proofs.YtjfgmgkhinehaaaGreatDoor
open Go Go.RowKit
set_option maxRecDepth 100000 in
set_option maxHeartbeats 1000000 in
theorem short_any (c : Int) (w : World) (h0 : 0 ≤ c) (h1 : c ≤ 255) : Calls Tryz.prog 191 #[.int .u8 c] w fun e w' => e = .returned (.string (toS (plainL c))) ∧ w' = w := by
  by_cases h : c = 34 ∨ c = 92 ∨ c = 47 ∨ c = 98 ∨ c = 102 ∨ c = 110 ∨ c = 114 ∨ c = 116
  · rcases h with rfl | rfl | rfl | rfl | rfl | rfl | rfl | rfl
    · rw [show toS (plainL 34) = ⟨#[34]⟩ by decide]
      go_enter Tryz.func191, Tryz.ntmps191
      go_wp2
      go_ret
      exact ⟨rfl, rfl⟩
    · rw [show toS (plainL 92) = ⟨#[92]⟩ by decide]
      go_enter Tryz.func191, Tryz.ntmps191
      go_wp2
      go_ret
      exact ⟨rfl, rfl⟩
    · rw [show toS (plainL 47) = ⟨#[47]⟩ by decide]
      go_enter Tryz.func191, Tryz.ntmps191
      go_wp2
      go_ret
      exact ⟨rfl, rfl⟩
    · rw [show toS (plainL 98) = ⟨#[8]⟩ by decide]
      go_enter Tryz.func191, Tryz.ntmps191
      go_wp2
      go_ret
      exact ⟨rfl, rfl⟩
    · rw [show toS (plainL 102) = ⟨#[12]⟩ by decide]
      go_enter Tryz.func191, Tryz.ntmps191
      go_wp2
      go_ret
      exact ⟨rfl, rfl⟩
    · rw [show toS (plainL 110) = ⟨#[10]⟩ by decide]
      go_enter Tryz.func191, Tryz.ntmps191
      go_wp2
      go_ret
      exact ⟨rfl, rfl⟩
    · rw [show toS (plainL 114) = ⟨#[13]⟩ by decide]
      go_enter Tryz.func191, Tryz.ntmps191
      go_wp2
      go_ret
      exact ⟨rfl, rfl⟩
    · rw [show toS (plainL 116) = ⟨#[9]⟩ by decide]
      go_enter Tryz.func191, Tryz.ntmps191
      go_wp2
      go_ret
      exact ⟨rfl, rfl⟩
  · have e : toS (plainL c) = ⟨#[]⟩ := by
      unfold plainL
      rw [if_neg (by omega), if_neg (by omega), if_neg (by omega), if_neg (by omega), if_neg (by omega), if_neg (by omega)]
      rfl
    rw [e]
    have n34 : (c == 34) = false := by rw [beq_eq_false_iff_ne]; omega
    have n92 : (c == 92) = false := by rw [beq_eq_false_iff_ne]; omega
    have n47 : (c == 47) = false := by rw [beq_eq_false_iff_ne]; omega
    have n98 : (c == 98) = false := by rw [beq_eq_false_iff_ne]; omega
    have n102 : (c == 102) = false := by rw [beq_eq_false_iff_ne]; omega
    have n110 : (c == 110) = false := by rw [beq_eq_false_iff_ne]; omega
    have n114 : (c == 114) = false := by rw [beq_eq_false_iff_ne]; omega
    have n116 : (c == 116) = false := by rw [beq_eq_false_iff_ne]; omega
    clear e h
    go_enter Tryz.func191, Tryz.ntmps191
    go_wp2
    go_ret
    exact ⟨rfl, rfl⟩
end Go.Proofs.YtjfgmgkhinehaaaGreatDoor
namespace Go.Proofs.YtjfgmgkhinehaaaGreatDoor
open Go Go.RowKit
def textJ (s : ByteArray) : J := .mk 3 0 s [] []
def intJ (n : Int) : J := .mk 2 n ⟨#[]⟩ [] []
def boolJ (b : Bool) : J := .mk 1 (if b then 1 else 0) ⟨#[]⟩ [] []
/-- A value is told that holds no memory of anyone's. -/
def Tells1 (W : World) (kind n : Int) (s : ByteArray) (e : Ending) (w' : World) : Prop := e = .returned (.agg #[.int .i64 kind, .int .i64 n, .string s, .slice none 0 0, .slice none 0 0]) ∧ Below W.heap.size W w'
set_option maxRecDepth 100000 in
set_option maxHeartbeats 1000000 in
theorem text_any (s : ByteArray) (w : World) (hs : s.size ≤ 9223372036854775807) : Calls Tryz.prog 18 #[.string s] w (Tells1 w 3 0 s) := by
  go_enter Tryz.func18, Tryz.ntmps18
  go_wp2
  refine bodyPost_ret (v := .agg #[.int .i64 3, .int .i64 0, .string s, .slice none 0 0, .slice none 0 0]) (by simp [results, Tryz.results18, go_sem]) rfl ⟨rfl, ?_⟩
  exact ((Below.refl _ _).alloc (Nat.le_refl _) _)
set_option maxRecDepth 100000 in
set_option maxHeartbeats 1000000 in
theorem int_any (n : Int) (w : World) : Calls Tryz.prog 19 #[.int .i64 n] w (Tells1 w 2 n ⟨#[]⟩) := by
  go_enter Tryz.func19, Tryz.ntmps19
  go_wp2
  refine bodyPost_ret (v := .agg #[.int .i64 2, .int .i64 n, .string ⟨#[]⟩, .slice none 0 0, .slice none 0 0]) (by simp [results, Tryz.results19, go_sem]) rfl ⟨rfl, ?_⟩
  exact ((Below.refl _ _).alloc (Nat.le_refl _) _)
set_option maxRecDepth 100000 in
set_option maxHeartbeats 1000000 in
theorem bool_any (b : Bool) (w : World) : Calls Tryz.prog 20 #[.bool b] w (Tells1 w 1 (if b then 1 else 0) ⟨#[]⟩) := by
  cases b
  · go_enter Tryz.func20, Tryz.ntmps20
    go_wp2
    refine bodyPost_ret (v := .agg #[.int .i64 1, .int .i64 0, .string ⟨#[]⟩, .slice none 0 0, .slice none 0 0]) (by simp [results, Tryz.results20, go_sem]) rfl ⟨rfl, ?_⟩
    exact (((Below.refl _ _).alloc (Nat.le_refl _) _).alloc (by simp) _)
  · go_enter Tryz.func20, Tryz.ntmps20
    go_wp2
    refine bodyPost_ret (v := .agg #[.int .i64 1, .int .i64 1, .string ⟨#[]⟩, .slice none 0 0, .slice none 0 0]) (by simp [results, Tryz.results20, go_sem]) rfl ⟨rfl, ?_⟩
    exact (((Below.refl _ _).alloc (Nat.le_refl _) _).alloc (by simp) _)
end Go.Proofs.YtjfgmgkhinehaaaGreatDoor
namespace Go.Proofs.YtjfgmgkhinehaaaGreatDoor
open Go Go.RowKit
theorem infoS : (Tryz.prog.info? 9).map (fun i => (i.zero, i.size, i.bytes)) = some (some (.string ⟨#[]⟩), 1, 16) := by kernel_rfl
theorem infoJ : (Tryz.prog.info? 27).map (fun i => (i.zero, i.size, i.bytes)) = some (some (.agg #[.int .i64 0, .int .i64 0, .string ⟨#[]⟩, .slice none 0 0, .slice none 0 0]), 5, 80) := by kernel_rfl
/-- Rows of two types are apart. -/
theorem own_apart {w : World} {b b' : Nat} {e e' : TypeId} {s s' n n' : Nat} {v v' : Value} {xs xs' : List Value} (h : w.ownsRow b e s v n xs) (h' : w.ownsRow b' e' s' v' n' xs') (hne : e ≠ e') : ∀ g, v.ownBlock = some g → v'.ownBlock ≠ some g := fun g hg hg' => by
  rcases h.2 with ⟨rfl, _⟩ | ⟨g1, _, _, rfl, _, h1, _⟩
  · simp [Value.ownBlock] at hg
  · rcases h'.2 with ⟨rfl, _⟩ | ⟨g2, _, _, rfl, _, h2, _⟩
    · simp [Value.ownBlock] at hg'
    · have e1 : g1 = g := by simpa [Value.ownBlock] using hg
      have e2 : g2 = g := by simpa [Value.ownBlock] using hg'
      subst e1
      subst e2
      rw [h1] at h2
      injection h2 with h2
      injection h2 with _ h2 _
      exact hne h2
/-- Where Put stands: its five variables' blocks, the two rows that it builds. -/
def PutInv (W wr : World) (c3 c5 : List Value) (S : Nat → Prop) (vs : List J) (xs : List Value) (vL : Value) (ks : List ByteArray) (vK : Value) : Prop :=
  (Blk wr W.heap.size 27 c3 ∧ Blk wr (W.heap.size + 1) 27 c5 ∧ Blk wr (W.heap.size + 2) 27 zeros5 ∧ Blk wr (W.heap.size + 3) 27 [.int .i64 5, .int .i64 0, .string ⟨#[]⟩, vL, vK]) ∧
  (wr.ownsRow (W.heap.size + 4) 27 5 vL vs.length xs ∧ FlatJ wr S vs xs) ∧ wr.ownsRow (W.heap.size + 4) 9 1 vK ks.length (ks.map Value.string) ∧ Below W.heap.size W wr ∧ W.heap.size + 4 ≤ wr.heap.size
theorem not_some {v : Value} {a B : Nat} (h : ∀ k, v.ownBlock = some k → B ≤ k) (ha : a < B) : some a ≠ v.ownBlock := fun e => by
  have := h a e.symm; omega
theorem PutInv.addK {W wr wa wb : World} {c3 c5 : List Value} {S : Nat → Prop} {vs : List J} {xs : List Value} {vL vK v' : Value} {ks : List ByteArray} {u : ByteArray} (hI : PutInv W wr c3 c5 S vs xs vL ks vK) (hS : ∀ b, S b → b < W.heap.size) (hA : wr.grownBy wa none) (hB : wa.grownBy wb vK.ownBlock)
    {m : Nat} (hm : m = ks.length + 1) (hown : wb.ownsRow (W.heap.size + 4) 9 1 v' m (ks.map Value.string ++ [.string u])) :
    PutInv W (wb.setCell ⟨W.heap.size + 3, 4, none⟩ v') c3 c5 S vs xs vL (ks ++ [u]) v' := by
  subst hm
  obtain ⟨⟨h3, h5, h6, h7⟩, ⟨hL, hf⟩, hK, hb, hsz⟩ := hI
  have lK := fun k hk => (hK.lt k hk).1
  have lL := fun k hk => (hL.lt k hk).1
  have l' := fun k hk => (hown.lt k hk).1
  have hC := grownBy_setCell wb (W.heap.size + 3) 4 v'
  have g1 : ∀ {g : Nat} {t : TypeId} {cs : List Value}, Blk wr g t cs → g < W.heap.size + 4 → g ≠ W.heap.size + 3 → Blk (wb.setCell ⟨W.heap.size + 3, 4, none⟩ v') g t cs := fun h hg hne =>
    ((h.grownN hA).grown hB (not_some lK hg)).grown hC (by simpa using hne)
  have hb1 : Below W.heap.size W wb := (hb.grown hA hb.size (by simp)).grown hB (Nat.le_trans hb.size hA.size) (fun k hk => by have := lK k hk; omega)
  have hb2 : Below W.heap.size W (wb.setCell ⟨W.heap.size + 3, 4, none⟩ v') := hb1.grown hC hb1.size (by simp)
  have hL1 := ((hL.kept hA (by cases hv : vL.ownBlock <;> simp)).kept hB (by
    cases hv : vL.ownBlock with
    | none => exact .inl rfl
    | some g => exact .inr (fun e => own_apart hL hK (by decide) g hv e.symm)))
  refine ⟨⟨g1 h3 (by omega) (by omega), g1 h5 (by omega) (by omega), g1 h6 (by omega) (by omega), ?_⟩, ⟨?_, ?_⟩, ?_, hb2, ?_⟩
  · have := ((h7.grownN hA).grown hB (not_some lK (by omega))).setCell 4 v'
    exact this
  · refine hL1.kept hC ?_
    cases hv : vL.ownBlock with
    | none => exact .inl rfl
    | some g => exact .inr (fun e => by injection e with e; have := lL g hv; omega)
  · refine hf.keeps (S := S) (T := S) ⟨?_, fun b hS' _ => ?_⟩ (fun _ h _ => h)
    · exact Nat.le_trans hA.size (Nat.le_trans hB.size hC.size)
    · have h1 := hS b hS'
      exact (hb2.block b h1).trans (hb.block b h1).symm
  · rw [List.length_append, List.map_append]
    refine World.ownsRow.kept hown hC ?_
    cases hv : v'.ownBlock with
    | none => exact .inl rfl
    | some g => exact .inr (fun e => by injection e with e; have := l' g hv; omega)
  · exact Nat.le_trans hsz (Nat.le_trans hA.size (Nat.le_trans hB.size hC.size))
theorem PutInv.addL {W wr wa wb : World} {c3 c5 : List Value} {S : Nat → Prop} {vs : List J} {xs : List Value} {vL vK v' : Value} {ks : List ByteArray} {x : J} {a0 a1 a2 a3 a4 : Value} (hI : PutInv W wr c3 c5 S vs xs vL ks vK) (hS : ∀ b, S b → b < W.heap.size) (hA : wr.grownBy wa none) (hB : wa.grownBy wb vL.ownBlock)
    {m : Nat} (hm : m = vs.length + 1) (hown : wb.ownsRow (W.heap.size + 4) 27 5 v' m (xs ++ [a0, a1, a2, a3, a4])) (hx : RepS W S x (.agg #[a0, a1, a2, a3, a4])) :
    PutInv W (wb.setCell ⟨W.heap.size + 3, 3, none⟩ v') c3 c5 S (vs ++ [x]) (xs ++ [a0, a1, a2, a3, a4]) v' ks vK := by
  subst hm
  obtain ⟨⟨h3, h5, h6, h7⟩, ⟨hL, hf⟩, hK, hb, hsz⟩ := hI
  have lK := fun k hk => (hK.lt k hk).1
  have lL := fun k hk => (hL.lt k hk).1
  have l' := fun k hk => (hown.lt k hk).1
  have hC := grownBy_setCell wb (W.heap.size + 3) 3 v'
  have g1 : ∀ {g : Nat} {t : TypeId} {cs : List Value}, Blk wr g t cs → g < W.heap.size + 4 → g ≠ W.heap.size + 3 → Blk (wb.setCell ⟨W.heap.size + 3, 3, none⟩ v') g t cs := fun h hg hne =>
    ((h.grownN hA).grown hB (not_some lL hg)).grown hC (by simpa using hne)
  have hb1 : Below W.heap.size W wb := (hb.grown hA hb.size (by simp)).grown hB (Nat.le_trans hb.size hA.size) (fun k hk => by have := lL k hk; omega)
  have hb2 : Below W.heap.size W (wb.setCell ⟨W.heap.size + 3, 3, none⟩ v') := hb1.grown hC hb1.size (by simp)
  have hK1 := ((hK.kept hA (by cases hv : vK.ownBlock <;> simp)).kept hB (by
    cases hv : vK.ownBlock with
    | none => exact .inl rfl
    | some g => exact .inr (fun e => own_apart hK hL (by decide) g hv e.symm)))
  have hk : Keeps S wr (wb.setCell ⟨W.heap.size + 3, 3, none⟩ v') := ⟨Nat.le_trans hA.size (Nat.le_trans hB.size hC.size), fun b hS' _ => (hb2.block b (hS b hS')).trans (hb.block b (hS b hS')).symm⟩
  refine ⟨⟨g1 h3 (by omega) (by omega), g1 h5 (by omega) (by omega), g1 h6 (by omega) (by omega), ?_⟩, ⟨?_, ?_⟩, ?_, hb2, ?_⟩
  · have := ((h7.grownN hA).grown hB (not_some lL (by omega))).setCell 3 v'
    exact this
  · rw [List.length_append]
    refine World.ownsRow.kept hown hC ?_
    cases hv : v'.ownBlock with
    | none => exact .inl rfl
    | some g => exact .inr (fun e => by injection e with e; have := l' g hv; omega)
  · exact FlatJ.snoc (RepS.keeps ⟨hb2.size, fun b h _ => hb2.block b (hS b h)⟩ (fun _ h _ => h) _ _ hx) (hf.keeps hk (fun _ h _ => h))
  · refine hK1.kept hC ?_
    cases hv : vK.ownBlock with
    | none => exact .inl rfl
    | some g => exact .inr (fun e => by injection e with e; have := lK g hv; omega)
  · exact Nat.le_trans hsz (Nat.le_trans hA.size (Nat.le_trans hB.size hC.size))
theorem heap_at {w : World} {n : Nat} (h : w.heap.size = n) (cs : List Value) (t : TypeId) : Blk (w.alloc (.cells cs.toArray t)) n t cs := by
  subst h; exact heap_alloc_new w _
theorem putInv_start (W : World) (c3 c5 : List Value) (S : Nat → Prop) :
    PutInv W ((((W.alloc (.cells c3.toArray 27)).alloc (.cells c5.toArray 27)).alloc (.cells zeros5.toArray 27)).alloc (.cells #[.int .i64 5, .int .i64 0, .string ⟨#[]⟩, .slice none 0 0, .slice none 0 0] 27)) c3 c5 S [] [] (.slice none 0 0) [] (.slice none 0 0) := by
  refine ⟨⟨?_, ?_, ?_, heap_at (by simp) [.int .i64 5, .int .i64 0, .string ⟨#[]⟩, .slice none 0 0, .slice none 0 0] _⟩, ⟨World.ownsRow_nil _ _ _ _, rfl⟩, World.ownsRow_nil _ _ _ _, ?_, by simp⟩
  · exact (((heap_at rfl c3 _).grownN (World.grownBy_alloc _ _ none)).grownN (World.grownBy_alloc _ _ none)).grownN (World.grownBy_alloc _ _ none)
  · exact ((heap_at (by simp) c5 _).grownN (World.grownBy_alloc _ _ none)).grownN (World.grownBy_alloc _ _ none)
  · exact (heap_at (by simp) zeros5 _).grownN (World.grownBy_alloc _ _ none)
  · exact ((((Below.refl _ _).alloc (Nat.le_refl _) _).alloc (by simp) _).alloc (by simp; omega) _).alloc (by simp; omega) _
theorem own_one {w : World} {b : Nat} {e : TypeId} {z n : Nat} {v : Value} {xs : List Value} (h : w.ownsRow b e z v n xs) : v.oneCell' = true := by
  rcases h.2 with ⟨rfl, _⟩ | ⟨g, _, _, rfl, _⟩ <;> rfl
/-- The cells of Put's blocks, as the walk reads them. -/
structure PutCells (wr : World) (B : Nat) (kd n : Int) (s : ByteArray) (A : Option Addr) (q c : Nat) (K1 : Option Addr) (d1 : Nat) (x0 x1 : Int) (x2 : ByteArray) (A' : Option Addr) (x3 c' : Nat) (K2 : Option Addr) (x4 d2 : Nat) (vL vK : Value) : Prop where
  e33 : wr.cell? ⟨B, 3, none⟩ = some (.slice A q c)
  e34 : wr.cell? ⟨B, 4, none⟩ = some (.slice K1 q d1)
  e50 : wr.cell? ⟨B + 1, 0, none⟩ = some (.int .i64 x0)
  e51 : wr.cell? ⟨B + 1, 1, none⟩ = some (.int .i64 x1)
  e52 : wr.cell? ⟨B + 1, 2, none⟩ = some (.string x2)
  e53 : wr.cell? ⟨B + 1, 3, none⟩ = some (.slice A' x3 c')
  e54 : wr.cell? ⟨B + 1, 4, none⟩ = some (.slice K2 x4 d2)
  e73 : wr.cell? ⟨B + 3, 3, none⟩ = some vL
  e74 : wr.cell? ⟨B + 3, 4, none⟩ = some vK
  f73 : wr.frozen? ⟨B + 3, 3, none⟩ = false
  f74 : wr.frozen? ⟨B + 3, 4, none⟩ = false
theorem PutInv.cells {W wr : World} {kd n x0 x1 : Int} {s x2 : ByteArray} {A K1 A' K2 : Option Addr} {q c d1 x3 c' x4 d2 : Nat} {S : Nat → Prop} {vs : List J} {xs : List Value} {vL vK : Value} {ks : List ByteArray}
    (h : PutInv W wr [.int .i64 kd, .int .i64 n, .string s, .slice A q c, .slice K1 q d1] [.int .i64 x0, .int .i64 x1, .string x2, .slice A' x3 c', .slice K2 x4 d2] S vs xs vL ks vK) :
    PutCells wr W.heap.size kd n s A q c K1 d1 x0 x1 x2 A' x3 c' K2 x4 d2 vL vK := by
  obtain ⟨⟨h3, h5, h6, h7⟩, _⟩ := h
  exact ⟨h3.cell 3, h3.cell 4, h5.cell 0, h5.cell 1, h5.cell 2, h5.cell 3, h5.cell 4, h7.cell 3, h7.cell 4, h7.frozen 3, h7.frozen 4⟩
/-- They stay where other rows grow. -/
theorem PutCells.grown {w w' : World} {B : Nat} {row : Option Nat} {kd n x0 x1 : Int} {s x2 : ByteArray} {A K1 A' K2 : Option Addr} {q c d1 x3 c' x4 d2 : Nat} {vL vK : Value}
    (h : PutCells w B kd n s A q c K1 d1 x0 x1 x2 A' x3 c' K2 x4 d2 vL vK) (hg : w.grownBy w' row) (hr : ∀ k, row = some k → B + 4 ≤ k) : PutCells w' B kd n s A q c K1 d1 x0 x1 x2 A' x3 c' K2 x4 d2 vL vK := by
  have hne : ∀ a, a < B + 4 → some a ≠ row := fun a ha e => by have := hr a e.symm; omega
  have g : ∀ {a o : Nat} {v : Value}, a < B + 4 → w.cell? ⟨a, o, none⟩ = some v → w'.cell? ⟨a, o, none⟩ = some v := fun ha hv => hg.cell hv (hne _ ha)
  have f : ∀ {o : Nat}, w.frozen? ⟨B + 3, o, none⟩ = false → w'.frozen? ⟨B + 3, o, none⟩ = false := fun {o} hv => by
    rw [World.frozen?_of_block (hg.block (B + 3) (World.block_lt_of_cell? w ⟨B + 3, 3, none⟩ h.e73) (hne _ (by omega)))]; exact hv
  exact ⟨g (by omega) h.e33, g (by omega) h.e34, g (by omega) h.e50, g (by omega) h.e51, g (by omega) h.e52, g (by omega) h.e53, g (by omega) h.e54, g (by omega) h.e73, g (by omega) h.e74, f h.f73, f h.f74⟩
/-- What Put tells in the end. -/
theorem PutInv.tells {W wr w' : World} {c3 c5 : List Value} {S : Nat → Prop} {vs : List J} {xs : List Value} {vL vK : Value} {ks : List ByteArray} (hI : PutInv W wr c3 c5 S vs xs vL ks vK) (hS : ∀ b, S b → b < W.heap.size) (hg : wr.grownBy w' (some (W.heap.size + 2)))
    (hv : vs.length ≤ 9223372036854775807) (hk : ks.length ≤ 9223372036854775807) (hks : ∀ t ∈ ks, t.size ≤ 9223372036854775807) :
    RepS w' (fun b => S b ∨ W.heap.size ≤ b) (.mk 5 0 ⟨#[]⟩ vs ks) (.agg #[.int .i64 5, .int .i64 0, .string ⟨#[]⟩, vL, vK]) := by
  obtain ⟨_, ⟨hL, hf⟩, hK, hb, hsz⟩ := hI
  have kept : ∀ {v : Value}, (∀ k, v.ownBlock = some k → W.heap.size + 4 ≤ k) → v.ownBlock = none ∨ v.ownBlock ≠ some (W.heap.size + 2) := fun {v} h => by
    cases hv : v.ownBlock with
    | none => exact .inl rfl
    | some g => exact .inr (fun e => by injection e with e; have := h g hv; omega)
  refine RepS.of_rows (hL.kept hg (kept fun k hk => (hL.lt k hk).1)) (hf.keeps (S := S) (T := S) ⟨hg.size, fun b hS' hb' => ?_⟩ (fun _ h _ => h)) (hK.kept hg (kept fun k hk => (hK.lt k hk).1)) (fun b h _ => .inl h) (fun b h => .inr (by omega)) (by decide) hv hk hks
  exact hg.block b hb' (by have := hS b hS'; simp; omega)
theorem own_len {w : World} {b : Nat} {e : TypeId} {z n m : Nat} {v : Value} {xs : List Value} (h : w.ownsRow b e z v n xs) (hm : m = n) : w.ownsRow b e z v m xs := by subst hm; exact h
end Go.Proofs.YtjfgmgkhinehaaaGreatDoor
