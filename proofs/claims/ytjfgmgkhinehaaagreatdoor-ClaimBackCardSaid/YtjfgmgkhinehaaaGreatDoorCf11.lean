/- JpHex, JsonValue, JsonMoves, JsonFm, JsonMany2, ClAsk, JpShort, JpMade: merged. -/
import Derived.Deep.AppendLies
import Derived.Test.YtjfgmgkhinehaaaGreatDoorCf07
import Derived.Test.YtjfgmgkhinehaaaGreatDoorCf10
set_option linter.all false
namespace Go.Proofs.YtjfgmgkhinehaaaGreatDoor
open Go Go.RowKit
set_option maxHeartbeats 1000000 in
theorem self_any (c : Int) (w : World) (h0 : 0 ≤ c) (h1 : c ≤ 255) : Calls Tryz.prog 189 #[.int .u8 c] w fun e w' => e = .returned (.bool (selfB c)) ∧ w = w' := by
  by_cases a : 32 ≤ c
  · by_cases b : c = 34
    · subst b
      go_enter Tryz.func189, Tryz.ntmps189
      go_wp2
      go_ret
      exact ⟨rfl, rfl⟩
    · by_cases d : c = 92
      · subst d
        go_enter Tryz.func189, Tryz.ntmps189
        go_wp2
        go_ret
        exact ⟨rfl, rfl⟩
      · have hs : selfB c = true := selfB_iff.2 ⟨a, b, d⟩
        rw [hs]
        have b1 : (c != 34) = true := by simpa using b
        have d1 : (c != 92) = true := by simpa using d
        clear hs b d
        go_enter Tryz.func189, Tryz.ntmps189
        go_wp2
        go_ret
        exact ⟨rfl, rfl⟩
  · have hs : selfB c = false := by
      cases h : selfB c with
      | false => rfl
      | true => exact absurd (selfB_iff.1 h).1 a
    rw [hs]
    have a1 : decide (32 ≤ c) = false := decide_eq_false a
    clear hs
    go_enter Tryz.func189, Tryz.ntmps189
    go_wp2
    go_ret
    exact ⟨rfl, rfl⟩
set_option maxHeartbeats 1000000 in
theorem hexWorth_any (c : Int) (w : World) (h0 : 0 ≤ c) (h1 : c ≤ 255) : Calls Tryz.prog 218 #[.int .u8 c] w fun e w' => e = .returned (.int .i64 (hexD c)) ∧ w = w' := by
  by_cases a : 48 ≤ c ∧ c ≤ 57
  · have hs : hexD c = c - 48 := if_pos a
    obtain ⟨a0, a1⟩ := a
    rw [hs]; clear hs
    go_enter Tryz.func218, Tryz.ntmps218
    go_wp2
    go_ret
    exact ⟨rfl, rfl⟩
  · have ha : (48 ≤ c → ¬ c ≤ 57) := fun x y => a ⟨x, y⟩
    by_cases b : 97 ≤ c ∧ c ≤ 102
    · have hs : hexD c = c - 97 + 10 := by unfold hexD; rw [if_neg a, if_pos b]
      obtain ⟨b0, b1⟩ := b
      have a0 : (48 : Int) ≤ c := by omega
      have a1 : decide (c ≤ 57) = false := decide_eq_false (by omega)
      rw [hs]; clear hs a ha
      go_enter Tryz.func218, Tryz.ntmps218
      go_wp2
      go_ret
      exact ⟨rfl, rfl⟩
    · by_cases d : 65 ≤ c ∧ c ≤ 70
      · have hs : hexD c = c - 65 + 10 := by unfold hexD; rw [if_neg a, if_neg b, if_pos d]
        obtain ⟨d0, d1⟩ := d
        have a0 : (48 : Int) ≤ c := by omega
        have a1 : decide (c ≤ 57) = false := decide_eq_false (by omega)
        have b0 : decide (97 ≤ c) = false := decide_eq_false (by omega)
        rw [hs]; clear hs a ha b
        go_enter Tryz.func218, Tryz.ntmps218
        go_wp2
        go_ret
        exact ⟨rfl, rfl⟩
      · have hs : hexD c = -1 := by unfold hexD; rw [if_neg a, if_neg b, if_neg d]
        rw [hs]; clear hs
        obtain ⟨X, hX⟩ : ∃ X, X = decide (48 ≤ c) := ⟨_, rfl⟩
        have hc : c < 48 ∨ (57 < c ∧ c < 65) ∨ (70 < c ∧ c < 97) ∨ 102 < c := by omega
        clear a ha b d hX
        rcases hc with hc | ⟨hc, hd⟩ | ⟨hc, hd⟩ | hc
        · have a1 : decide (48 ≤ c) = false := decide_eq_false (by omega)
          have a2 : decide (65 ≤ c) = false := decide_eq_false (by omega)
          have a3 : decide (97 ≤ c) = false := decide_eq_false (by omega)
          go_enter Tryz.func218, Tryz.ntmps218
          go_wp2
          go_ret
          exact ⟨rfl, rfl⟩
        · have a1 : decide (48 ≤ c) = true := decide_eq_true (by omega)
          have a4 : decide (c ≤ 57) = false := decide_eq_false (by omega)
          have a2 : decide (65 ≤ c) = false := decide_eq_false (by omega)
          have a3 : decide (97 ≤ c) = false := decide_eq_false (by omega)
          go_enter Tryz.func218, Tryz.ntmps218
          go_wp2
          go_ret
          exact ⟨rfl, rfl⟩
        · have a1 : decide (48 ≤ c) = true := decide_eq_true (by omega)
          have a4 : decide (c ≤ 57) = false := decide_eq_false (by omega)
          have a2 : decide (65 ≤ c) = true := decide_eq_true (by omega)
          have a5 : decide (c ≤ 70) = false := decide_eq_false (by omega)
          have a3 : decide (97 ≤ c) = false := decide_eq_false (by omega)
          go_enter Tryz.func218, Tryz.ntmps218
          go_wp2
          go_ret
          exact ⟨rfl, rfl⟩
        · have a1 : decide (48 ≤ c) = true := decide_eq_true (by omega)
          have a4 : decide (c ≤ 57) = false := decide_eq_false (by omega)
          have a2 : decide (65 ≤ c) = true := decide_eq_true (by omega)
          have a5 : decide (c ≤ 70) = false := decide_eq_false (by omega)
          have a3 : decide (97 ≤ c) = true := decide_eq_true (by omega)
          have a6 : decide (c ≤ 102) = false := decide_eq_false (by omega)
          go_enter Tryz.func218, Tryz.ntmps218
          go_wp2
          go_ret
          exact ⟨rfl, rfl⟩
end Go.Proofs.YtjfgmgkhinehaaaGreatDoor
namespace Go.Proofs.YtjfgmgkhinehaaaGreatDoor
open Go Go.RowKit
theorem wordL_le {l : List Int} : ∀ {x : List Int} {i : Nat}, (∀ c ∈ x, 0 ≤ c) → i ≤ l.length → (wordL l i x).1 ≤ l.length
  | [], i, _, hi => by rw [wordL]; exact hi
  | c :: r, i, hx, hi => by
    rw [wordL]
    split
    · rename_i h
      exact wordL_le (fun c hc => hx c (List.mem_cons_of_mem _ hc)) (atL_lt (by have := hx c (by simp); omega))
    · exact hi
theorem heapAt (w : World) {n : Nat} (h : w.heap.size = n) (cs : List Value) (t : TypeId) : Blk (w.alloc (.cells cs.toArray t)) n t cs := by
  subst h; exact heap_alloc_new w _
theorem quotedL_le (l : List Int) (i : Nat) (h : (quotedL l i).2.2 = 0) : (quotedL l i).2.1 ≤ l.length := by
  unfold quotedL at h ⊢
  split
  · rename_i hc; rw [if_pos hc] at h; exact absurd (show (50 : Int) = 0 from h) (by decide)
  · rename_i hc; rw [if_neg hc] at h; exact quotL_le l _ _ _ h
theorem quotL_len (l : List Int) : ∀ (f i : Nat) (out : List Int), (quotL l f i out).1.length ≤ out.length + 4 * f
  | 0, i, out => by rw [quotL]; simp
  | f + 1, i, out => by
    have h : ∀ (i : Nat) (x : List Int), x.length ≤ 4 → (quotL l f i (out ++ x)).1.length ≤ out.length + 4 * (f + 1) := fun i x hx => by
      have := quotL_len l f i (out ++ x)
      rw [List.length_append] at this; omega
    rw [quotL]
    split
    · simp
    · split
      · simp only; omega
      · split
        · split
          · simp
          · refine h _ _ ?_
            have := (nx_bd (l.drop i)).2.2.1
            rw [List.length_take]; omega
        · split
          · split
            · simp
            · exact h _ _ (by have := plain_len (atL l (i + 1)); omega)
          · split
            · simp
            · split
              · exact h _ _ (putL_len _)
              · split
                · simp
                · exact h _ _ (putL_len _)
theorem quotedL_len (l : List Int) (i : Nat) : (quotedL l i).1.length ≤ 4 * l.length + 4 := by
  unfold quotedL
  split
  · simp
  · have := quotL_len l (l.length + 1) (i + 1) []
    simp at this; omega
end Go.Proofs.YtjfgmgkhinehaaaGreatDoor
namespace Go.Proofs.YtjfgmgkhinehaaaGreatDoor
open Go Go.RowKit
/-- Nothing is wrong: it ends behind i, within l; no more may come than before. -/
def Moves (l : List Int) (i : Nat) (left : Int) (r : VR) : Prop := r.2.2.2 = 0 → i < r.2.1 ∧ r.2.1 ≤ l.length ∧ 0 ≤ r.2.2.1 ∧ r.2.2.1 ≤ left
theorem Moves.bad {l : List Int} {i : Nat} {left : Int} {v : J} {p : Nat} {n e : Int} (he : e ≠ 0) : Moves l i left (v, p, n, e) := fun h => absurd h he
theorem skipL_ge {l : List Int} {i : Nat} (h : i ≤ l.length) : i ≤ skipL l i ∧ skipL l i ≤ l.length := skipL_le l.length l i (by omega) h
theorem Moves.mono {l : List Int} {i j : Nat} {left left' : Int} {r : VR} (h : Moves l j left' r) (hi : i ≤ j) (hl : left' ≤ left) : Moves l i left r := fun he => by
  obtain ⟨h1, h2, h3, h4⟩ := h he
  exact ⟨by omega, h2, h3, by omega⟩
theorem wordL_ok {l : List Int} : ∀ {x : List Int} {i : Nat}, (wordL l i x).2 = 0 → (wordL l i x).1 = i + x.length
  | [], i, _ => by rw [wordL]; rfl
  | c :: r, i, h => by
    rw [wordL] at h ⊢
    split
    · rename_i hc; rw [if_pos hc] at h
      have := wordL_ok h
      rw [this, List.length_cons]; omega
    · rename_i hc; rw [if_neg hc] at h
      exact absurd (show (50 : Int) = 0 from h) (by decide)
theorem quotL_gt (l : List Int) : ∀ (f i : Nat) (out : List Int), (quotL l f i out).2.2 = 0 → i < (quotL l f i out).2.1
  | 0, i, out, h => by rw [quotL] at h; exact absurd (show (50 : Int) = 0 from h) (by decide)
  | f + 1, i, out, h => by
    rw [quotL] at h ⊢
    split
    · rename_i hc; rw [if_pos hc] at h; exact absurd (show (50 : Int) = 0 from h) (by decide)
    · rename_i hc; rw [if_neg hc] at h
      split
      · exact Nat.lt_succ_self i
      · rename_i h34; rw [if_neg h34] at h
        split
        · rename_i h92; rw [if_pos h92] at h
          split
          · rename_i hx; rw [if_pos hx] at h; exact absurd (show (50 : Int) = 0 from h) (by decide)
          · rename_i hx; rw [if_neg hx] at h
            have := quotL_gt l f _ _ h
            have hn := (nx_found (l := l.drop i) (by omega)).2.2.1
            omega
        · rename_i h92; rw [if_neg h92] at h
          split
          · rename_i hu; rw [if_pos hu] at h
            split
            · rename_i hx; rw [if_pos hx] at h; exact absurd (show (50 : Int) = 0 from h) (by decide)
            · rename_i hx; rw [if_neg hx] at h; have := quotL_gt l f _ _ h; omega
          · rename_i hu; rw [if_neg hu] at h
            split
            · rename_i hx; rw [if_pos hx] at h; exact absurd (show (50 : Int) = 0 from h) (by decide)
            · rename_i hx; rw [if_neg hx] at h
              split
              · rename_i hy; rw [if_pos hy] at h; have := quotL_gt l f _ _ h; omega
              · rename_i hy; rw [if_neg hy] at h
                split
                · rename_i hz; rw [if_pos hz] at h; exact absurd (show (50 : Int) = 0 from h) (by decide)
                · rename_i hz; rw [if_neg hz] at h; have := quotL_gt l f _ _ h; omega
theorem quotedL_gt (l : List Int) (i : Nat) (h : (quotedL l i).2.2 = 0) : i < (quotedL l i).2.1 := by
  unfold quotedL at h ⊢
  split
  · rename_i hc; rw [if_pos hc] at h; exact absurd (show (50 : Int) = 0 from h) (by decide)
  · rename_i hc; rw [if_neg hc] at h
    have := quotL_gt l _ _ _ h
    omega
theorem tellV_moves {l : List Int} {i : Nat} {left left' : Int} (hl : 0 ≤ left) (hll : left ≤ left') (v : J) (p : Nat × Int) (hp : p.2 = 0 → i < p.1 ∧ p.1 ≤ l.length) : Moves l i left' (tellV l left v p) := by
  unfold tellV
  split
  · rename_i h; exact .bad h
  · rename_i h
    have h0 : p.2 = 0 := by omega
    obtain ⟨h1, h2⟩ := hp h0
    have := skipL_ge h2
    exact fun _ => ⟨by show i < skipL l p.1; omega, this.2, hl, hll⟩
theorem valF_moves {l : List Int} {many : Nat → Int → VR} (hm : ∀ i left, i < l.length → 0 ≤ left → Moves l i left (many i left)) (i : Nat) (left : Int) (hi : i ≤ l.length) : Moves l i left (valF l many i left) := by
  unfold valF
  by_cases hb : beginsV (atL l i) = true
  · rw [if_neg (by rw [hb]; simp)]
    have hlt : i < l.length := atL_lt (by intro e; rw [e] at hb; revert hb; decide)
    split
    · exact .bad (by decide)
    · rename_i h1
      split
      · split
        · exact .bad (by decide)
        · rename_i hn
          have hle := leadL_le (l.drop i)
          rw [List.length_drop] at hle
          split
          · have := skipL_ge (l := l) (i := i + leadL (l.drop i)) (by omega)
            exact fun _ => ⟨by show i < skipL l _; omega, this.2, by show 0 ≤ left - 1; omega, by show left - 1 ≤ left; omega⟩
          · exact .bad (by decide)
      · have hw : ∀ (x : List Int), x ≠ [] → (∀ c ∈ x, 0 ≤ c) → (wordL l i x).2 = 0 → i < (wordL l i x).1 ∧ (wordL l i x).1 ≤ l.length := fun x hne hx h => by
          have h1 := wordL_ok h
          have h2 := wordL_le hx hi
          have := List.length_pos_iff.2 hne
          exact ⟨by omega, h2⟩
        split
        · exact tellV_moves (by omega) (by omega) _ _ (hw _ (by decide) (by decide))
        · split
          · exact tellV_moves (by omega) (by omega) _ _ (hw _ (by decide) (by decide))
          · split
            · exact tellV_moves (by omega) (by omega) _ _ (hw _ (by decide) (by decide))
            · split
              · exact tellV_moves (by omega) (by omega) _ _ (fun h => ⟨quotedL_gt l i h, quotedL_le l i h⟩)
              · exact (hm i (left - 1) hlt (by omega)).mono (Nat.le_refl _) (by omega)
  · rw [if_pos hb]
    exact .bad (by decide)
theorem manyGo_moves {l : List Int} {val : Nat → Int → VR} (hv : ∀ i left, i ≤ l.length → 0 ≤ left → Moves l i left (val i left)) (obj : Bool) : ∀ (f : Nat) (first : Bool) (i : Nat) (left : Int) (ks : List ByteArray) (vs : List J), i ≤ l.length → 0 ≤ left → Moves l i left (manyGo l val obj f first i left ks vs)
  | 0, first, i, left, ks, vs, _, _ => by rw [manyGo]; exact .bad (by decide)
  | f + 1, first, i, left, ks, vs, hi, hl => by
    have item : ∀ (a : Nat) (t : ByteArray), i ≤ a → a ≤ l.length → Moves l i left (itemL l val obj (manyGo l val obj f false) a left t ks vs) := fun a t ha hal => by
      unfold itemL
      by_cases he : (val a left).2.2.2 ≠ 0
      · rw [if_pos he]; exact .bad he
      · rw [if_neg he]
        obtain ⟨h1, h2, h3, h4⟩ := hv a left hal hl (by omega)
        by_cases hc : atL l (val a left).2.1 ≠ 44 ∧ atL l (val a left).2.1 ≠ (if obj = true then 125 else 93)
        · rw [if_pos hc]; exact .bad (by decide)
        · rw [if_neg hc]
          cases obj
          · exact (manyGo_moves hv false f false _ _ _ _ h2 h3).mono (by omega) h4
          · exact (manyGo_moves hv true f false _ _ _ _ h2 h3).mono (by omega) h4
    have memb : ∀ (a : Nat), i ≤ a → a ≤ l.length → Moves l i left (membL l val obj (manyGo l val obj f false) a left ks vs) := fun a ha hal => by
      unfold membL
      split
      · split
        · rename_i he; exact .bad he
        · rename_i he
          have h0 : (quotedL l a).2.2 = 0 := by omega
          have q1 := quotedL_gt l a h0
          have q2 := quotedL_le l a h0
          have s1 := skipL_ge q2
          split
          · exact .bad (by decide)
          · split
            · exact .bad (by decide)
            · rename_i h58
              have h3 := atL_lt (l := l) (i := skipL l (quotedL l a).2.1) (by omega)
              have s2 := skipL_ge (l := l) (i := skipL l (quotedL l a).2.1 + 1) (by omega)
              exact item _ _ (by omega) s2.2
      · exact item _ _ ha hal
    rw [manyGo]
    by_cases he : atL l i = (if obj = true then 125 else 93)
    · rw [if_pos he]
      have h3 := atL_lt (l := l) (i := i) (by rw [he]; cases obj <;> decide)
      have s2 := skipL_ge (l := l) (i := i + 1) (by omega)
      exact fun _ => ⟨by show i < skipL l (i + 1); omega, s2.2, hl, Int.le_refl _⟩
    · rw [if_neg he]
      split
      · exact memb _ (Nat.le_refl _) hi
      · split
        · exact .bad (by decide)
        · rename_i h44
          have h3 := atL_lt (l := l) (i := i) (by omega)
          have s2 := skipL_ge (l := l) (i := i + 1) (by omega)
          exact memb _ (by omega) s2.2
theorem valueL_moves (l : List Int) : ∀ (d i : Nat) (left : Int), i ≤ l.length → Moves l i left (valueL l d i left)
  | 0, i, left, hi => by rw [valueL]; exact valF_moves (fun i left _ _ => .bad (by decide)) i left hi
  | d + 1, i, left, hi => by
    rw [valueL]
    refine valF_moves (fun i left hi hl => ?_) i left hi
    unfold manyL
    have s := skipL_ge (l := l) (i := i + 1) (by omega)
    exact (manyGo_moves (fun i left hi _ => valueL_moves l d i left hi) _ _ _ _ _ _ _ s.2 hl).mono (by omega) (Int.le_refl _)
end Go.Proofs.YtjfgmgkhinehaaaGreatDoor
namespace Go.Proofs.YtjfgmgkhinehaaaGreatDoor
open Go Go.RowKit
theorem RepJ.form {W : World} {j : J} {v : Value} (h : RepJ W j v) : ∃ x0 x1 x2 A p c K q d, v = .agg #[.int .i64 x0, .int .i64 x1, .string x2, .slice A p c, .slice K q d] := by
  obtain ⟨vk, A, c, rfl, _, hk, _, _⟩ := h.open
  obtain ⟨K, d, rfl, _, _⟩ := hk.open
  exact ⟨_, _, _, _, _, _, _, _, _, rfl⟩
end Go.Proofs.YtjfgmgkhinehaaaGreatDoor
namespace Go.Proofs.YtjfgmgkhinehaaaGreatDoor
open Go Go.RowKit
theorem mid_below {wr w1 w2 w3 : World} {g : Nat} (h1 : Below wr.heap.size wr w1) (h2 : w1.grownBy w2 none) (hg : w1.heap.size ≤ g) (h3 : w2.grownBy w3 (some g)) : Below wr.heap.size wr w3 :=
  (h1.grown h2 h1.size (by simp)).grown h3 (Nat.le_trans h1.size h2.size) (by intro k hk; injection hk with hk; have := h1.size; omega)
end Go.Proofs.YtjfgmgkhinehaaaGreatDoor
namespace Go.Proofs.YtjfgmgkhinehaaaGreatDoor
open Go Go.RowKit
/-- What a closure of asking holds: the value, where the error is kept, the question. -/
def HeldQ (bj bk ba kb : Nat) (x0 x1 : Int) (x2 : ByteArray) (xA : Option Addr) (xp xc : Nat) (xK : Option Addr) (xq xd : Nat) (f : Nat) (caps : Array Value) (X : World) : Prop :=
  X.cell? ⟨bk, 0, none⟩ = some (.pointer (some ⟨kb, 0, none⟩)) ∧ X.cell? ⟨ba, 0, none⟩ = some (.func (.func f) #[] caps) ∧ X.cell? ⟨bj, 0, none⟩ = some (.int .i64 x0) ∧ X.cell? ⟨bj, 1, none⟩ = some (.int .i64 x1) ∧ X.cell? ⟨bj, 2, none⟩ = some (.string x2) ∧ X.cell? ⟨bj, 3, none⟩ = some (.slice xA xp xc) ∧ X.cell? ⟨bj, 4, none⟩ = some (.slice xK xq xd)
theorem HeldQ.below {bj bk ba kb : Nat} {x0 x1 : Int} {x2 : ByteArray} {xA : Option Addr} {xp xc : Nat} {xK : Option Addr} {xq xd : Nat} {f : Nat} {caps : Array Value} {w w' : World} (h : HeldQ bj bk ba kb x0 x1 x2 xA xp xc xK xq xd f caps w) (hb : Below w.heap.size w w') : HeldQ bj bk ba kb x0 x1 x2 xA xp xc xK xq xd f caps w' := by
  obtain ⟨h0, h1, h2, h3, h4, h5, h6⟩ := h
  exact ⟨(hb.cell (lt_of_cell h0)).trans h0, (hb.cell (lt_of_cell h1)).trans h1, (hb.cell (lt_of_cell h2)).trans h2, (hb.cell (lt_of_cell h3)).trans h3, (hb.cell (lt_of_cell h4)).trans h4, (hb.cell (lt_of_cell h5)).trans h5, (hb.cell (lt_of_cell h6)).trans h6⟩
theorem cell_grownC {w w' : World} {b o kb : Nat} {v : Value} (h : w.cell? ⟨b, o, none⟩ = some v) (hg : w.grownBy w' (some kb)) (hne : b ≠ kb) : w'.cell? ⟨b, o, none⟩ = some v := World.grownBy.cell hg h (by intro e; injection e with e; exact hne e)
theorem HeldQ.grown {bj bk ba kb : Nat} {x0 x1 : Int} {x2 : ByteArray} {xA : Option Addr} {xp xc : Nat} {xK : Option Addr} {xq xd : Nat} {f : Nat} {caps : Array Value} {w w' : World} (h : HeldQ bj bk ba kb x0 x1 x2 xA xp xc xK xq xd f caps w) (hg : w.grownBy w' (some kb)) (h1 : kb < bj) (h2 : bj < bk) (h3 : bk < ba) : HeldQ bj bk ba kb x0 x1 x2 xA xp xc xK xq xd f caps w' := by
  obtain ⟨k0, k1, k2, k3, k4, k5, k6⟩ := h
  exact ⟨cell_grownC k0 hg (by omega), cell_grownC k1 hg (by omega), cell_grownC k2 hg (by omega), cell_grownC k3 hg (by omega), cell_grownC k4 hg (by omega), cell_grownC k5 hg (by omega), cell_grownC k6 hg (by omega)⟩
theorem SliceN.grownC {w w' : World} {v : Value} {ns : List ByteArray} {g : Nat} {t : TypeId} {cs : List Value} (h : SliceN w v ns) (hb : Blk w g t cs) (hcs : ∀ (i : Nat) (x : ByteArray), cs[i]? = some (.string x) → x ∉ ns) (hg : w.grownBy w' (some g)) : SliceN w' v ns := by
  obtain ⟨A, c, e, hc, hl, ho⟩ := h
  refine ⟨A, c, e, hc, fun hp => ?_, ho⟩
  obtain ⟨b, o, ea, hlt, hcell⟩ := hl hp
  refine ⟨b, o, ea, Nat.lt_of_lt_of_le hlt hg.size, fun i x hi => ?_⟩
  refine World.grownBy.cell hg (hcell i x hi) ?_
  intro e2
  injection e2 with e2
  have e2 : b = g := e2
  subst e2
  have h1 := hcell i x hi
  rw [hb.cell] at h1
  exact hcs _ x h1 (List.mem_of_getElem? hi)
theorem heapAtC (w : World) {n : Nat} (h : w.heap.size = n) (cs : List Value) (t : TypeId) : Blk (w.alloc (.cells cs.toArray t)) n t cs := by
  subst h; exact heap_alloc_new w _
theorem sizeErr : (Tryz.prog.info? 46).map (·.size) = some 1 := by kernel_rfl
set_option maxRecDepth 100000 in
set_option maxHeartbeats 4000000 in
theorem askingS_any (kb f : Nat) (caps : Array Value) (x0 x1 : Int) (x2 : ByteArray) (xA : Option Addr) (xp xc : Nat) (xK : Option Addr) (xq xd : Nat) (w : World) :
    Calls Tryz.prog 71 #[.agg #[.int .i64 x0, .int .i64 x1, .string x2, .slice xA xp xc, .slice xK xq xd], .pointer (some ⟨kb, 0, none⟩), .func (.func f) #[] caps] w fun e w' => e = .returned (.func (.func 101) #[] #[.pointer (some ⟨w.heap.size + 1, 0, none⟩), .pointer (some ⟨w.heap.size + 2, 0, none⟩), .pointer (some ⟨w.heap.size, 0, none⟩)]) ∧ HeldQ w.heap.size (w.heap.size + 1) (w.heap.size + 2) kb x0 x1 x2 xA xp xc xK xq xd f caps w' ∧ Below w.heap.size w w' := by
  go_enter Tryz.func71, Tryz.ntmps71
  go_wp2
  go_ret
  refine ⟨rfl, ?_, (((Below.refl _ _).alloc (Nat.le_refl _) _).alloc (by simp) _).alloc (by simp; omega) _⟩
  have b0 := Blk.grownN (Blk.grownN (heapAtC w rfl [.int .i64 x0, .int .i64 x1, .string x2, .slice xA xp xc, .slice xK xq xd] 27) (World.grownBy_alloc _ (.cells #[.pointer (some ⟨kb, 0, none⟩)] 105) none)) (World.grownBy_alloc _ (.cells #[.func (.func f) #[] caps] 64) none)
  have b1 := Blk.grownN (heapAtC (w.alloc (.cells #[.int .i64 x0, .int .i64 x1, .string x2, .slice xA xp xc, .slice xK xq xd] 27)) (n := w.heap.size + 1) (by simp) [.pointer (some ⟨kb, 0, none⟩)] 105) (World.grownBy_alloc _ (.cells #[.func (.func f) #[] caps] 64) none)
  have b2 := heapAtC ((w.alloc (.cells #[.int .i64 x0, .int .i64 x1, .string x2, .slice xA xp xc, .slice xK xq xd] 27)).alloc (.cells #[.pointer (some ⟨kb, 0, none⟩)] 105)) (n := w.heap.size + 2) (by simp) [.func (.func f) #[] caps] 64
  exact ⟨b1.cell 0, b2.cell 0, b0.cell 0, b0.cell 1, b0.cell 2, b0.cell 3, b0.cell 4⟩
set_option maxRecDepth 100000 in
set_option maxHeartbeats 4000000 in
theorem askS_any (bj bk ba kb f : Nat) (caps : Array Value) (x0 x1 : Int) (x2 : ByteArray) (xA : Option Addr) (xp xc : Nat) (xK : Option Addr) (xq xd : Nat) (name : ByteArray) (k : Int) (r : ByteArray × Int) (w : World) (h : HeldQ bj bk ba kb x0 x1 x2 xA xp xc xK xq xd f caps w) (hk : Blk w kb 46 [errV k]) (h1 : kb < bj) (h2 : bj < bk) (h3 : bk < ba)
    (eg : ∀ args w, (callFunc f args).run Tryz.prog w = .ok (.enter f args) w) (hf : k = 0 → ∀ W, Below w.heap.size w W → Calls Tryz.prog f (#[.agg #[.int .i64 x0, .int .i64 x1, .string x2, .slice xA xp xc, .slice xK xq xd], .string name] ++ caps) W fun e w' => e = .returned (.tuple #[.string r.1, errV r.2]) ∧ Below W.heap.size W w') :
    Calls Tryz.prog 101 #[.string name, .pointer (some ⟨bk, 0, none⟩), .pointer (some ⟨ba, 0, none⟩), .pointer (some ⟨bj, 0, none⟩)] w fun e w' => e = .returned (.string (keptM ⟨#[]⟩ k r).1) ∧ Blk w' kb 46 [errV (keptM ⟨#[]⟩ k r).2] ∧ w.grownBy w' (some kb) := by
  have hkb := hk.lt
  have kc : w.cell? ⟨kb, 0, none⟩ = some (errV k) := hk.cell 0
  have HH := Lib.hid h
  have HK := Lib.hid hk
  obtain ⟨y0, y1, y2, y3, y4, y5, y6⟩ := h
  by_cases h0 : k = 0
  case neg =>
    have HKV : Hid (keptM ⟨#[]⟩ k r = (⟨#[]⟩, k)) := Lib.hid (if_neg h0)
    rw [HKV.out]
    rw [errV_of h0] at kc
    clear hk hf HKV
    go_enter Tryz.func101, Tryz.ntmps101
    go_wp2
    go_ret
    exact ⟨rfl, HK.out, grownBy_refl w _⟩
  case pos =>
    subst h0
    have HKV : Hid (keptM ⟨#[]⟩ 0 r = r) := Lib.hid rfl
    rw [HKV.out]
    rw [errV_zero] at kc
    have HF := Lib.hid (hf rfl)
    clear hk hf HKV
    go_enter Tryz.func101, Tryz.ntmps101
    go_wp2_with fail
    refine wp_region_held_drew (S := fun X => X.cell? ⟨bk, 0, none⟩ = some (.pointer (some ⟨kb, 0, none⟩)) ∧ X.cell? ⟨ba, 0, none⟩ = some (.func (.func f) #[] caps) ∧ X.cell? ⟨bj, 0, none⟩ = some (.int .i64 x0) ∧ X.cell? ⟨bj, 1, none⟩ = some (.int .i64 x1) ∧ X.cell? ⟨bj, 2, none⟩ = some (.string x2) ∧ X.cell? ⟨bj, 3, none⟩ = some (.slice xA xp xc) ∧ X.cell? ⟨bj, 4, none⟩ = some (.slice xK xq xd)) (by kernel_rfl) ⟨y0, y1, y2, y3, y4, y5, y6⟩ (fun hHeld => ?_)
    refine rgT 0 ?_
    try simp only [rgS]
    refine rgT 1 ?_
    try simp only [rgS]
    refine rgT 2 ?_
    try simp only [rgS]
    refine rgT 3 ?_
    try simp only [rgS]
    refine rgO 4 (fun K hK => ?_)
    go_simp
    (with_reducible refine (HF.out _ (Below.refl _ w).drew).mono ?_)
    rintro e w3 ⟨rfl, hb⟩
    
    have HB3 := Lib.hid (show Below w.heap.size w w3 from (Below.refl _ w).drew.trans hb)
    clear hb
    have hk3 : Blk w3 kb 46 [errV 0] := HK.out.below HB3.out hkb
    have HY3 := Lib.hid (HH.out.below HB3.out)
    have HY := HY3.out
    refine hK.out _ _ HY (fun hH3 => ?_)
    clear hK K hHeld HY
    obtain ⟨ev, hev⟩ : ∃ v, v = errV r.2 := ⟨_, rfl⟩
    have HEV := Lib.hid hev
    rw [← hev]
    have hone : ev.oneCell' = true := by rw [hev]; exact errV_one _
    clear hev
    try simp only [rgS]
    refine rgT 5 ?_
    try simp only [rgS]
    refine rgT 6 ?_
    try simp only [rgS]
    refine rgT 7 ?_
    try simp only [rgS]
    refine rgT 8 ?_
    try simp only [rgS]
    refine rgT 9 ?_
    try simp only [rgS]
    refine rgO 10 (fun K hK => ?_)
    rw [if_pos (by kernel_rfl)]
    refine wp_store_one 46 (.tmp 19) (.tmp 18) rfl kb 0 ev rfl rfl hone _ _ hk3 (by simp) sizeErr ?_
    intro w5 hk5 hg5
    rw [List.set_cons_zero] at hk5
    refine hK.out _ _ (HY3.out.grown hg5 h1 h2 h3) (fun hH5 => ?_)
    clear hK K
    have HK5 := Lib.hid hk5
    have HG3 := Lib.hid ((grownBy_of_below HB3.out none).but (some kb))
    have HG5 := Lib.hid (((grownBy_of_below HB3.out none).but _).trans hg5)
    have HK3 := Lib.hid hk3
    have HG35 := Lib.hid hg5
    clear hg5 hk5 hk3
    try simp only [rgS]
    refine wpAnyH_done (by kernel_rfl) ?_ _
    go_wp2
    go_ret
    rw [← HEV.out]
    exact ⟨rfl, HK5.out, HG5.out⟩
set_option maxRecDepth 100000 in
set_option maxHeartbeats 4000000 in
theorem askingI_any (kb f : Nat) (caps : Array Value) (x0 x1 : Int) (x2 : ByteArray) (xA : Option Addr) (xp xc : Nat) (xK : Option Addr) (xq xd : Nat) (w : World) :
    Calls Tryz.prog 69 #[.agg #[.int .i64 x0, .int .i64 x1, .string x2, .slice xA xp xc, .slice xK xq xd], .pointer (some ⟨kb, 0, none⟩), .func (.func f) #[] caps] w fun e w' => e = .returned (.func (.func 99) #[] #[.pointer (some ⟨w.heap.size + 1, 0, none⟩), .pointer (some ⟨w.heap.size + 2, 0, none⟩), .pointer (some ⟨w.heap.size, 0, none⟩)]) ∧ HeldQ w.heap.size (w.heap.size + 1) (w.heap.size + 2) kb x0 x1 x2 xA xp xc xK xq xd f caps w' ∧ Below w.heap.size w w' := by
  go_enter Tryz.func69, Tryz.ntmps69
  go_wp2
  go_ret
  refine ⟨rfl, ?_, (((Below.refl _ _).alloc (Nat.le_refl _) _).alloc (by simp) _).alloc (by simp; omega) _⟩
  have b0 := Blk.grownN (Blk.grownN (heapAtC w rfl [.int .i64 x0, .int .i64 x1, .string x2, .slice xA xp xc, .slice xK xq xd] 27) (World.grownBy_alloc _ (.cells #[.pointer (some ⟨kb, 0, none⟩)] 105) none)) (World.grownBy_alloc _ (.cells #[.func (.func f) #[] caps] 69) none)
  have b1 := Blk.grownN (heapAtC (w.alloc (.cells #[.int .i64 x0, .int .i64 x1, .string x2, .slice xA xp xc, .slice xK xq xd] 27)) (n := w.heap.size + 1) (by simp) [.pointer (some ⟨kb, 0, none⟩)] 105) (World.grownBy_alloc _ (.cells #[.func (.func f) #[] caps] 69) none)
  have b2 := heapAtC ((w.alloc (.cells #[.int .i64 x0, .int .i64 x1, .string x2, .slice xA xp xc, .slice xK xq xd] 27)).alloc (.cells #[.pointer (some ⟨kb, 0, none⟩)] 105)) (n := w.heap.size + 2) (by simp) [.func (.func f) #[] caps] 69
  exact ⟨b1.cell 0, b2.cell 0, b0.cell 0, b0.cell 1, b0.cell 2, b0.cell 3, b0.cell 4⟩
set_option maxRecDepth 100000 in
set_option maxHeartbeats 4000000 in
theorem askI_any (bj bk ba kb f : Nat) (caps : Array Value) (x0 x1 : Int) (x2 : ByteArray) (xA : Option Addr) (xp xc : Nat) (xK : Option Addr) (xq xd : Nat) (name : ByteArray) (k : Int) (r : Int × Int) (w : World) (h : HeldQ bj bk ba kb x0 x1 x2 xA xp xc xK xq xd f caps w) (hk : Blk w kb 46 [errV k]) (h1 : kb < bj) (h2 : bj < bk) (h3 : bk < ba)
    (eg : ∀ args w, (callFunc f args).run Tryz.prog w = .ok (.enter f args) w) (hf : k = 0 → ∀ W, Below w.heap.size w W → Calls Tryz.prog f (#[.agg #[.int .i64 x0, .int .i64 x1, .string x2, .slice xA xp xc, .slice xK xq xd], .string name] ++ caps) W fun e w' => e = .returned (.tuple #[.int .i64 r.1, errV r.2]) ∧ Below W.heap.size W w') :
    Calls Tryz.prog 99 #[.string name, .pointer (some ⟨bk, 0, none⟩), .pointer (some ⟨ba, 0, none⟩), .pointer (some ⟨bj, 0, none⟩)] w fun e w' => e = .returned (.int .i64 (keptM 0 k r).1) ∧ Blk w' kb 46 [errV (keptM 0 k r).2] ∧ w.grownBy w' (some kb) := by
  have hkb := hk.lt
  have kc : w.cell? ⟨kb, 0, none⟩ = some (errV k) := hk.cell 0
  have HH := Lib.hid h
  have HK := Lib.hid hk
  obtain ⟨y0, y1, y2, y3, y4, y5, y6⟩ := h
  by_cases h0 : k = 0
  case neg =>
    have HKV : Hid (keptM 0 k r = (0, k)) := Lib.hid (if_neg h0)
    rw [HKV.out]
    rw [errV_of h0] at kc
    clear hk hf HKV
    go_enter Tryz.func99, Tryz.ntmps99
    go_wp2
    go_ret
    exact ⟨rfl, HK.out, grownBy_refl w _⟩
  case pos =>
    subst h0
    have HKV : Hid (keptM 0 0 r = r) := Lib.hid rfl
    rw [HKV.out]
    rw [errV_zero] at kc
    have HF := Lib.hid (hf rfl)
    clear hk hf HKV
    go_enter Tryz.func99, Tryz.ntmps99
    go_wp2_with fail
    refine wp_region_held_drew (S := fun X => X.cell? ⟨bk, 0, none⟩ = some (.pointer (some ⟨kb, 0, none⟩)) ∧ X.cell? ⟨ba, 0, none⟩ = some (.func (.func f) #[] caps) ∧ X.cell? ⟨bj, 0, none⟩ = some (.int .i64 x0) ∧ X.cell? ⟨bj, 1, none⟩ = some (.int .i64 x1) ∧ X.cell? ⟨bj, 2, none⟩ = some (.string x2) ∧ X.cell? ⟨bj, 3, none⟩ = some (.slice xA xp xc) ∧ X.cell? ⟨bj, 4, none⟩ = some (.slice xK xq xd)) (by kernel_rfl) ⟨y0, y1, y2, y3, y4, y5, y6⟩ (fun hHeld => ?_)
    refine rgT 0 ?_
    try simp only [rgS]
    refine rgT 1 ?_
    try simp only [rgS]
    refine rgT 2 ?_
    try simp only [rgS]
    refine rgT 3 ?_
    try simp only [rgS]
    refine rgO 4 (fun K hK => ?_)
    go_simp
    (with_reducible refine (HF.out _ (Below.refl _ w).drew).mono ?_)
    rintro e w3 ⟨rfl, hb⟩
    
    have HB3 := Lib.hid (show Below w.heap.size w w3 from (Below.refl _ w).drew.trans hb)
    clear hb
    have hk3 : Blk w3 kb 46 [errV 0] := HK.out.below HB3.out hkb
    have HY3 := Lib.hid (HH.out.below HB3.out)
    have HY := HY3.out
    refine hK.out _ _ HY (fun hH3 => ?_)
    clear hK K hHeld HY
    obtain ⟨ev, hev⟩ : ∃ v, v = errV r.2 := ⟨_, rfl⟩
    have HEV := Lib.hid hev
    rw [← hev]
    have hone : ev.oneCell' = true := by rw [hev]; exact errV_one _
    clear hev
    try simp only [rgS]
    refine rgT 5 ?_
    try simp only [rgS]
    refine rgT 6 ?_
    try simp only [rgS]
    refine rgT 7 ?_
    try simp only [rgS]
    refine rgT 8 ?_
    try simp only [rgS]
    refine rgT 9 ?_
    try simp only [rgS]
    refine rgO 10 (fun K hK => ?_)
    rw [if_pos (by kernel_rfl)]
    refine wp_store_one 46 (.tmp 19) (.tmp 18) rfl kb 0 ev rfl rfl hone _ _ hk3 (by simp) sizeErr ?_
    intro w5 hk5 hg5
    rw [List.set_cons_zero] at hk5
    refine hK.out _ _ (HY3.out.grown hg5 h1 h2 h3) (fun hH5 => ?_)
    clear hK K
    have HK5 := Lib.hid hk5
    have HG3 := Lib.hid ((grownBy_of_below HB3.out none).but (some kb))
    have HG5 := Lib.hid (((grownBy_of_below HB3.out none).but _).trans hg5)
    have HK3 := Lib.hid hk3
    have HG35 := Lib.hid hg5
    clear hg5 hk5 hk3
    try simp only [rgS]
    refine wpAnyH_done (by kernel_rfl) ?_ _
    go_wp2
    go_ret
    rw [← HEV.out]
    exact ⟨rfl, HK5.out, HG5.out⟩
set_option maxRecDepth 100000 in
set_option maxHeartbeats 4000000 in
theorem askingL_any (kb f : Nat) (caps : Array Value) (x0 x1 : Int) (x2 : ByteArray) (xA : Option Addr) (xp xc : Nat) (xK : Option Addr) (xq xd : Nat) (w : World) :
    Calls Tryz.prog 91 #[.agg #[.int .i64 x0, .int .i64 x1, .string x2, .slice xA xp xc, .slice xK xq xd], .pointer (some ⟨kb, 0, none⟩), .func (.func f) #[] caps] w fun e w' => e = .returned (.func (.func 124) #[] #[.pointer (some ⟨w.heap.size + 1, 0, none⟩), .pointer (some ⟨w.heap.size + 2, 0, none⟩), .pointer (some ⟨w.heap.size, 0, none⟩)]) ∧ HeldQ w.heap.size (w.heap.size + 1) (w.heap.size + 2) kb x0 x1 x2 xA xp xc xK xq xd f caps w' ∧ Below w.heap.size w w' := by
  go_enter Tryz.func91, Tryz.ntmps91
  go_wp2
  go_ret
  refine ⟨rfl, ?_, (((Below.refl _ _).alloc (Nat.le_refl _) _).alloc (by simp) _).alloc (by simp; omega) _⟩
  have b0 := Blk.grownN (Blk.grownN (heapAtC w rfl [.int .i64 x0, .int .i64 x1, .string x2, .slice xA xp xc, .slice xK xq xd] 27) (World.grownBy_alloc _ (.cells #[.pointer (some ⟨kb, 0, none⟩)] 105) none)) (World.grownBy_alloc _ (.cells #[.func (.func f) #[] caps] 73) none)
  have b1 := Blk.grownN (heapAtC (w.alloc (.cells #[.int .i64 x0, .int .i64 x1, .string x2, .slice xA xp xc, .slice xK xq xd] 27)) (n := w.heap.size + 1) (by simp) [.pointer (some ⟨kb, 0, none⟩)] 105) (World.grownBy_alloc _ (.cells #[.func (.func f) #[] caps] 73) none)
  have b2 := heapAtC ((w.alloc (.cells #[.int .i64 x0, .int .i64 x1, .string x2, .slice xA xp xc, .slice xK xq xd] 27)).alloc (.cells #[.pointer (some ⟨kb, 0, none⟩)] 105)) (n := w.heap.size + 2) (by simp) [.func (.func f) #[] caps] 73
  exact ⟨b1.cell 0, b2.cell 0, b0.cell 0, b0.cell 1, b0.cell 2, b0.cell 3, b0.cell 4⟩
set_option maxRecDepth 100000 in
set_option maxHeartbeats 4000000 in
theorem askL_any (bj bk ba kb f : Nat) (caps : Array Value) (x0 x1 : Int) (x2 : ByteArray) (xA : Option Addr) (xp xc : Nat) (xK : Option Addr) (xq xd : Nat) (name : ByteArray) (k : Int) (r : List ByteArray × Int) (w : World) (h : HeldQ bj bk ba kb x0 x1 x2 xA xp xc xK xq xd f caps w) (hk : Blk w kb 46 [errV k]) (h1 : kb < bj) (h2 : bj < bk) (h3 : bk < ba)
    (eg : ∀ args w, (callFunc f args).run Tryz.prog w = .ok (.enter f args) w) (hf : k = 0 → ∀ W, Below w.heap.size w W → Calls Tryz.prog f (#[.agg #[.int .i64 x0, .int .i64 x1, .string x2, .slice xA xp xc, .slice xK xq xd], .string name] ++ caps) W fun e w' => ∃ A c, e = .returned (.tuple #[.slice A r.1.length c, errV r.2]) ∧ SliceN w' (.slice A r.1.length c) r.1 ∧ Below W.heap.size W w') :
    Calls Tryz.prog 124 #[.string name, .pointer (some ⟨bk, 0, none⟩), .pointer (some ⟨ba, 0, none⟩), .pointer (some ⟨bj, 0, none⟩)] w fun e w' => ∃ v, e = .returned v ∧ SliceN w' v (keptM [] k r).1 ∧ Blk w' kb 46 [errV (keptM [] k r).2] ∧ w.grownBy w' (some kb) := by
  have hkb := hk.lt
  have kc : w.cell? ⟨kb, 0, none⟩ = some (errV k) := hk.cell 0
  have HH := Lib.hid h
  have HK := Lib.hid hk
  obtain ⟨y0, y1, y2, y3, y4, y5, y6⟩ := h
  by_cases h0 : k = 0
  case neg =>
    have HKV : Hid (keptM [] k r = ([], k)) := Lib.hid (if_neg h0)
    rw [HKV.out]
    rw [errV_of h0] at kc
    clear hk hf HKV
    go_enter Tryz.func124, Tryz.ntmps124
    go_wp2
    go_ret
    exact ⟨_, rfl, SliceN.nil _, HK.out, grownBy_refl w _⟩
  case pos =>
    subst h0
    have HKV : Hid (keptM [] 0 r = r) := Lib.hid rfl
    rw [HKV.out]
    rw [errV_zero] at kc
    have HF := Lib.hid (hf rfl)
    clear hk hf HKV
    go_enter Tryz.func124, Tryz.ntmps124
    go_wp2_with fail
    refine wp_region_held_drew (S := fun X => X.cell? ⟨bk, 0, none⟩ = some (.pointer (some ⟨kb, 0, none⟩)) ∧ X.cell? ⟨ba, 0, none⟩ = some (.func (.func f) #[] caps) ∧ X.cell? ⟨bj, 0, none⟩ = some (.int .i64 x0) ∧ X.cell? ⟨bj, 1, none⟩ = some (.int .i64 x1) ∧ X.cell? ⟨bj, 2, none⟩ = some (.string x2) ∧ X.cell? ⟨bj, 3, none⟩ = some (.slice xA xp xc) ∧ X.cell? ⟨bj, 4, none⟩ = some (.slice xK xq xd)) (by kernel_rfl) ⟨y0, y1, y2, y3, y4, y5, y6⟩ (fun hHeld => ?_)
    refine rgT 0 ?_
    try simp only [rgS]
    refine rgT 1 ?_
    try simp only [rgS]
    refine rgT 2 ?_
    try simp only [rgS]
    refine rgT 3 ?_
    try simp only [rgS]
    refine rgO 4 (fun K hK => ?_)
    go_simp
    (with_reducible refine (HF.out _ (Below.refl _ w).drew).mono ?_)
    rintro e w3 ⟨A, c, rfl, hsl, hb⟩
    have HSL := Lib.hid hsl; clear hsl
    have HB3 := Lib.hid (show Below w.heap.size w w3 from (Below.refl _ w).drew.trans hb)
    clear hb
    have hk3 : Blk w3 kb 46 [errV 0] := HK.out.below HB3.out hkb
    have HY3 := Lib.hid (HH.out.below HB3.out)
    have HY := HY3.out
    refine hK.out _ _ HY (fun hH3 => ?_)
    clear hK K hHeld HY
    obtain ⟨ev, hev⟩ : ∃ v, v = errV r.2 := ⟨_, rfl⟩
    have HEV := Lib.hid hev
    rw [← hev]
    have hone : ev.oneCell' = true := by rw [hev]; exact errV_one _
    clear hev
    try simp only [rgS]
    refine rgT 5 ?_
    try simp only [rgS]
    refine rgT 6 ?_
    try simp only [rgS]
    refine rgT 7 ?_
    try simp only [rgS]
    refine rgT 8 ?_
    try simp only [rgS]
    refine rgT 9 ?_
    try simp only [rgS]
    refine rgO 10 (fun K hK => ?_)
    rw [if_pos (by kernel_rfl)]
    refine wp_store_one 46 (.tmp 19) (.tmp 18) rfl kb 0 ev rfl rfl hone _ _ hk3 (by simp) sizeErr ?_
    intro w5 hk5 hg5
    rw [List.set_cons_zero] at hk5
    refine hK.out _ _ (HY3.out.grown hg5 h1 h2 h3) (fun hH5 => ?_)
    clear hK K
    have HK5 := Lib.hid hk5
    have HG3 := Lib.hid ((grownBy_of_below HB3.out none).but (some kb))
    have HG5 := Lib.hid (((grownBy_of_below HB3.out none).but _).trans hg5)
    have HK3 := Lib.hid hk3
    have HG35 := Lib.hid hg5
    clear hg5 hk5 hk3
    try simp only [rgS]
    refine wpAnyH_done (by kernel_rfl) ?_ _
    go_wp2
    go_ret
    rw [← HEV.out]
    exact ⟨_, rfl, HSL.out.grownC HK3.out (fun i x h => by rcases i with _ | i <;> simp [errV] at h) HG35.out, HK5.out, HG5.out⟩
end Go.Proofs.YtjfgmgkhinehaaaGreatDoor
namespace Go.Proofs.YtjfgmgkhinehaaaGreatDoor
open Go Go.RowKit
set_option maxRecDepth 100000 in
set_option maxHeartbeats 1000000 in
theorem short_any (c : Int) (w : World) (h0 : 0 ≤ c) (h1 : c ≤ 255) : Calls Tryz.prog 191 #[.int .u8 c] w fun e w' => e = .returned (.string (toS (plainL c))) ∧ w' = w := by
  by_cases h : c = 34 ∨ c = 92 ∨ c = 47 ∨ c = 98 ∨ c = 102 ∨ c = 110 ∨ c = 114 ∨ c = 116
  · rcases h with rfl | rfl | rfl | rfl | rfl | rfl | rfl | rfl
    · rw [show toS (plainL 34) = ⟨#[34]⟩ by decide]
      go_enter Tryz.func191, Tryz.ntmps191
      go_wp2
      go_ret
      exact ⟨rfl, rfl⟩
    · rw [show toS (plainL 92) = ⟨#[92]⟩ by decide]
      go_enter Tryz.func191, Tryz.ntmps191
      go_wp2
      go_ret
      exact ⟨rfl, rfl⟩
    · rw [show toS (plainL 47) = ⟨#[47]⟩ by decide]
      go_enter Tryz.func191, Tryz.ntmps191
      go_wp2
      go_ret
      exact ⟨rfl, rfl⟩
    · rw [show toS (plainL 98) = ⟨#[8]⟩ by decide]
      go_enter Tryz.func191, Tryz.ntmps191
      go_wp2
      go_ret
      exact ⟨rfl, rfl⟩
    · rw [show toS (plainL 102) = ⟨#[12]⟩ by decide]
      go_enter Tryz.func191, Tryz.ntmps191
      go_wp2
      go_ret
      exact ⟨rfl, rfl⟩
    · rw [show toS (plainL 110) = ⟨#[10]⟩ by decide]
      go_enter Tryz.func191, Tryz.ntmps191
      go_wp2
      go_ret
      exact ⟨rfl, rfl⟩
    · rw [show toS (plainL 114) = ⟨#[13]⟩ by decide]
      go_enter Tryz.func191, Tryz.ntmps191
      go_wp2
      go_ret
      exact ⟨rfl, rfl⟩
    · rw [show toS (plainL 116) = ⟨#[9]⟩ by decide]
      go_enter Tryz.func191, Tryz.ntmps191
      go_wp2
      go_ret
      exact ⟨rfl, rfl⟩
  · have e : toS (plainL c) = ⟨#[]⟩ := by
      unfold plainL
      rw [if_neg (by omega), if_neg (by omega), if_neg (by omega), if_neg (by omega), if_neg (by omega), if_neg (by omega)]
      rfl
    rw [e]
    have n34 : (c == 34) = false := by rw [beq_eq_false_iff_ne]; omega
    have n92 : (c == 92) = false := by rw [beq_eq_false_iff_ne]; omega
    have n47 : (c == 47) = false := by rw [beq_eq_false_iff_ne]; omega
    have n98 : (c == 98) = false := by rw [beq_eq_false_iff_ne]; omega
    have n102 : (c == 102) = false := by rw [beq_eq_false_iff_ne]; omega
    have n110 : (c == 110) = false := by rw [beq_eq_false_iff_ne]; omega
    have n114 : (c == 114) = false := by rw [beq_eq_false_iff_ne]; omega
    have n116 : (c == 116) = false := by rw [beq_eq_false_iff_ne]; omega
    clear e h
    go_enter Tryz.func191, Tryz.ntmps191
    go_wp2
    go_ret
    exact ⟨rfl, rfl⟩
end Go.Proofs.YtjfgmgkhinehaaaGreatDoor
namespace Go.Proofs.YtjfgmgkhinehaaaGreatDoor
open Go Go.RowKit
/-- A value is told that holds no memory of anyone's. -/
def Tells1 (W : World) (kind n : Int) (s : ByteArray) (e : Ending) (w' : World) : Prop := e = .returned (.agg #[.int .i64 kind, .int .i64 n, .string s, .slice none 0 0, .slice none 0 0]) ∧ Below W.heap.size W w'
set_option maxRecDepth 100000 in
set_option maxHeartbeats 1000000 in
theorem text_any (s : ByteArray) (w : World) (hs : s.size ≤ 9223372036854775807) : Calls Tryz.prog 18 #[.string s] w (Tells1 w 3 0 s) := by
  go_enter Tryz.func18, Tryz.ntmps18
  go_wp2
  refine bodyPost_ret (v := .agg #[.int .i64 3, .int .i64 0, .string s, .slice none 0 0, .slice none 0 0]) (by simp [results, Tryz.results18, go_sem]) rfl ⟨rfl, ?_⟩
  exact ((Below.refl _ _).alloc (Nat.le_refl _) _)
set_option maxRecDepth 100000 in
set_option maxHeartbeats 1000000 in
theorem int_any (n : Int) (w : World) : Calls Tryz.prog 19 #[.int .i64 n] w (Tells1 w 2 n ⟨#[]⟩) := by
  go_enter Tryz.func19, Tryz.ntmps19
  go_wp2
  refine bodyPost_ret (v := .agg #[.int .i64 2, .int .i64 n, .string ⟨#[]⟩, .slice none 0 0, .slice none 0 0]) (by simp [results, Tryz.results19, go_sem]) rfl ⟨rfl, ?_⟩
  exact ((Below.refl _ _).alloc (Nat.le_refl _) _)
set_option maxRecDepth 100000 in
set_option maxHeartbeats 1000000 in
theorem bool_any (b : Bool) (w : World) : Calls Tryz.prog 20 #[.bool b] w (Tells1 w 1 (if b then 1 else 0) ⟨#[]⟩) := by
  cases b
  · go_enter Tryz.func20, Tryz.ntmps20
    go_wp2
    refine bodyPost_ret (v := .agg #[.int .i64 1, .int .i64 0, .string ⟨#[]⟩, .slice none 0 0, .slice none 0 0]) (by simp [results, Tryz.results20, go_sem]) rfl ⟨rfl, ?_⟩
    exact (((Below.refl _ _).alloc (Nat.le_refl _) _).alloc (by simp) _)
  · go_enter Tryz.func20, Tryz.ntmps20
    go_wp2
    refine bodyPost_ret (v := .agg #[.int .i64 1, .int .i64 1, .string ⟨#[]⟩, .slice none 0 0, .slice none 0 0]) (by simp [results, Tryz.results20, go_sem]) rfl ⟨rfl, ?_⟩
    exact (((Below.refl _ _).alloc (Nat.le_refl _) _).alloc (by simp) _)
end Go.Proofs.YtjfgmgkhinehaaaGreatDoor
