/- JsonMoves, JpMade, JsonMany2: merged. -/
import Derived.Test.YtblheibknpphkaaGreatDoorBa22
set_option linter.all false
namespace Go.Proofs.YtblheibknpphkaaGreatDoor
open Go Go.RowKit
/-- Nothing is wrong: it ends behind i, within l; no more may come than before. -/
def Moves (l : List Int) (i : Nat) (left : Int) (r : VR) : Prop := r.2.2.2 = 0 → i < r.2.1 ∧ r.2.1 ≤ l.length ∧ 0 ≤ r.2.2.1 ∧ r.2.2.1 ≤ left
theorem Moves.bad {l : List Int} {i : Nat} {left : Int} {v : J} {p : Nat} {n e : Int} (he : e ≠ 0) : Moves l i left (v, p, n, e) := fun h => absurd h he
theorem skipL_ge {l : List Int} {i : Nat} (h : i ≤ l.length) : i ≤ skipL l i ∧ skipL l i ≤ l.length := skipL_le l.length l i (by omega) h
theorem Moves.mono {l : List Int} {i j : Nat} {left left' : Int} {r : VR} (h : Moves l j left' r) (hi : i ≤ j) (hl : left' ≤ left) : Moves l i left r := fun he => by
  obtain ⟨h1, h2, h3, h4⟩ := h he
  exact ⟨by omega, h2, h3, by omega⟩
theorem wordL_ok {l : List Int} : ∀ {x : List Int} {i : Nat}, (wordL l i x).2 = 0 → (wordL l i x).1 = i + x.length
  | [], i, _ => by rw [wordL]; rfl
  | c :: r, i, h => by
    rw [wordL] at h ⊢
    split
    · rename_i hc; rw [if_pos hc] at h
      have := wordL_ok h
      rw [this, List.length_cons]; omega
    · rename_i hc; rw [if_neg hc] at h
      exact absurd (show (50 : Int) = 0 from h) (by decide)
theorem quotL_gt (l : List Int) : ∀ (f i : Nat) (out : List Int), (quotL l f i out).2.2 = 0 → i < (quotL l f i out).2.1
  | 0, i, out, h => by rw [quotL] at h; exact absurd (show (50 : Int) = 0 from h) (by decide)
  | f + 1, i, out, h => by
    rw [quotL] at h ⊢
    split
    · rename_i hc; rw [if_pos hc] at h; exact absurd (show (50 : Int) = 0 from h) (by decide)
    · rename_i hc; rw [if_neg hc] at h
      split
      · exact Nat.lt_succ_self i
      · rename_i h34; rw [if_neg h34] at h
        split
        · rename_i h92; rw [if_pos h92] at h
          split
          · rename_i hx; rw [if_pos hx] at h; exact absurd (show (50 : Int) = 0 from h) (by decide)
          · rename_i hx; rw [if_neg hx] at h
            have := quotL_gt l f _ _ h
            have hn := (nx_found (l := l.drop i) (by omega)).2.2.1
            omega
        · rename_i h92; rw [if_neg h92] at h
          split
          · rename_i hu; rw [if_pos hu] at h
            split
            · rename_i hx; rw [if_pos hx] at h; exact absurd (show (50 : Int) = 0 from h) (by decide)
            · rename_i hx; rw [if_neg hx] at h; have := quotL_gt l f _ _ h; omega
          · rename_i hu; rw [if_neg hu] at h
            split
            · rename_i hx; rw [if_pos hx] at h; exact absurd (show (50 : Int) = 0 from h) (by decide)
            · rename_i hx; rw [if_neg hx] at h
              split
              · rename_i hy; rw [if_pos hy] at h; have := quotL_gt l f _ _ h; omega
              · rename_i hy; rw [if_neg hy] at h
                split
                · rename_i hz; rw [if_pos hz] at h; exact absurd (show (50 : Int) = 0 from h) (by decide)
                · rename_i hz; rw [if_neg hz] at h; have := quotL_gt l f _ _ h; omega
theorem quotedL_gt (l : List Int) (i : Nat) (h : (quotedL l i).2.2 = 0) : i < (quotedL l i).2.1 := by
  unfold quotedL at h ⊢
  split
  · rename_i hc; rw [if_pos hc] at h; exact absurd (show (50 : Int) = 0 from h) (by decide)
  · rename_i hc; rw [if_neg hc] at h
    have := quotL_gt l _ _ _ h
    omega
theorem tellV_moves {l : List Int} {i : Nat} {left left' : Int} (hl : 0 ≤ left) (hll : left ≤ left') (v : J) (p : Nat × Int) (hp : p.2 = 0 → i < p.1 ∧ p.1 ≤ l.length) : Moves l i left' (tellV l left v p) := by
  unfold tellV
  split
  · rename_i h; exact .bad h
  · rename_i h
    have h0 : p.2 = 0 := by omega
    obtain ⟨h1, h2⟩ := hp h0
    have := skipL_ge h2
    exact fun _ => ⟨by show i < skipL l p.1; omega, this.2, hl, hll⟩
theorem valF_moves {l : List Int} {many : Nat → Int → VR} (hm : ∀ i left, i < l.length → 0 ≤ left → Moves l i left (many i left)) (i : Nat) (left : Int) (hi : i ≤ l.length) : Moves l i left (valF l many i left) := by
  unfold valF
  by_cases hb : beginsV (atL l i) = true
  · rw [if_neg (by rw [hb]; simp)]
    have hlt : i < l.length := atL_lt (by intro e; rw [e] at hb; revert hb; decide)
    split
    · exact .bad (by decide)
    · rename_i h1
      split
      · split
        · exact .bad (by decide)
        · rename_i hn
          have hle := leadL_le (l.drop i)
          rw [List.length_drop] at hle
          split
          · have := skipL_ge (l := l) (i := i + leadL (l.drop i)) (by omega)
            exact fun _ => ⟨by show i < skipL l _; omega, this.2, by show 0 ≤ left - 1; omega, by show left - 1 ≤ left; omega⟩
          · exact .bad (by decide)
      · have hw : ∀ (x : List Int), x ≠ [] → (∀ c ∈ x, 0 ≤ c) → (wordL l i x).2 = 0 → i < (wordL l i x).1 ∧ (wordL l i x).1 ≤ l.length := fun x hne hx h => by
          have h1 := wordL_ok h
          have h2 := wordL_le hx hi
          have := List.length_pos_iff.2 hne
          exact ⟨by omega, h2⟩
        split
        · exact tellV_moves (by omega) (by omega) _ _ (hw _ (by decide) (by decide))
        · split
          · exact tellV_moves (by omega) (by omega) _ _ (hw _ (by decide) (by decide))
          · split
            · exact tellV_moves (by omega) (by omega) _ _ (hw _ (by decide) (by decide))
            · split
              · exact tellV_moves (by omega) (by omega) _ _ (fun h => ⟨quotedL_gt l i h, quotedL_le l i h⟩)
              · exact (hm i (left - 1) hlt (by omega)).mono (Nat.le_refl _) (by omega)
  · rw [if_pos hb]
    exact .bad (by decide)
theorem manyGo_moves {l : List Int} {val : Nat → Int → VR} (hv : ∀ i left, i ≤ l.length → 0 ≤ left → Moves l i left (val i left)) (obj : Bool) : ∀ (f : Nat) (first : Bool) (i : Nat) (left : Int) (ks : List ByteArray) (vs : List J), i ≤ l.length → 0 ≤ left → Moves l i left (manyGo l val obj f first i left ks vs)
  | 0, first, i, left, ks, vs, _, _ => by rw [manyGo]; exact .bad (by decide)
  | f + 1, first, i, left, ks, vs, hi, hl => by
    have item : ∀ (a : Nat) (t : ByteArray), i ≤ a → a ≤ l.length → Moves l i left (itemL l val obj (manyGo l val obj f false) a left t ks vs) := fun a t ha hal => by
      unfold itemL
      by_cases he : (val a left).2.2.2 ≠ 0
      · rw [if_pos he]; exact .bad he
      · rw [if_neg he]
        obtain ⟨h1, h2, h3, h4⟩ := hv a left hal hl (by omega)
        by_cases hc : atL l (val a left).2.1 ≠ 44 ∧ atL l (val a left).2.1 ≠ (if obj = true then 125 else 93)
        · rw [if_pos hc]; exact .bad (by decide)
        · rw [if_neg hc]
          cases obj
          · exact (manyGo_moves hv false f false _ _ _ _ h2 h3).mono (by omega) h4
          · exact (manyGo_moves hv true f false _ _ _ _ h2 h3).mono (by omega) h4
    have memb : ∀ (a : Nat), i ≤ a → a ≤ l.length → Moves l i left (membL l val obj (manyGo l val obj f false) a left ks vs) := fun a ha hal => by
      unfold membL
      split
      · split
        · rename_i he; exact .bad he
        · rename_i he
          have h0 : (quotedL l a).2.2 = 0 := by omega
          have q1 := quotedL_gt l a h0
          have q2 := quotedL_le l a h0
          have s1 := skipL_ge q2
          split
          · exact .bad (by decide)
          · split
            · exact .bad (by decide)
            · rename_i h58
              have h3 := atL_lt (l := l) (i := skipL l (quotedL l a).2.1) (by omega)
              have s2 := skipL_ge (l := l) (i := skipL l (quotedL l a).2.1 + 1) (by omega)
              exact item _ _ (by omega) s2.2
      · exact item _ _ ha hal
    rw [manyGo]
    by_cases he : atL l i = (if obj = true then 125 else 93)
    · rw [if_pos he]
      have h3 := atL_lt (l := l) (i := i) (by rw [he]; cases obj <;> decide)
      have s2 := skipL_ge (l := l) (i := i + 1) (by omega)
      exact fun _ => ⟨by show i < skipL l (i + 1); omega, s2.2, hl, Int.le_refl _⟩
    · rw [if_neg he]
      split
      · exact memb _ (Nat.le_refl _) hi
      · split
        · exact .bad (by decide)
        · rename_i h44
          have h3 := atL_lt (l := l) (i := i) (by omega)
          have s2 := skipL_ge (l := l) (i := i + 1) (by omega)
          exact memb _ (by omega) s2.2
theorem valueL_moves (l : List Int) : ∀ (d i : Nat) (left : Int), i ≤ l.length → Moves l i left (valueL l d i left)
  | 0, i, left, hi => by rw [valueL]; exact valF_moves (fun i left _ _ => .bad (by decide)) i left hi
  | d + 1, i, left, hi => by
    rw [valueL]
    refine valF_moves (fun i left hi hl => ?_) i left hi
    unfold manyL
    have s := skipL_ge (l := l) (i := i + 1) (by omega)
    exact (manyGo_moves (fun i left hi _ => valueL_moves l d i left hi) _ _ _ _ _ _ _ s.2 hl).mono (by omega) (Int.le_refl _)
end Go.Proofs.YtblheibknpphkaaGreatDoor
namespace Go.Proofs.YtblheibknpphkaaGreatDoor
open Go Go.RowKit
/-- A value is told that holds no memory of anyone's. -/
def Tells1 (W : World) (kind n : Int) (s : ByteArray) (e : Ending) (w' : World) : Prop := e = .returned (.agg #[.int .i64 kind, .int .i64 n, .string s, .slice none 0 0, .slice none 0 0]) ∧ Below W.heap.size W w'
set_option maxRecDepth 100000 in
set_option maxHeartbeats 1000000 in
theorem text_any (s : ByteArray) (w : World) (hs : s.size ≤ 9223372036854775807) : Calls Tryz.prog 28 #[.string s] w (Tells1 w 3 0 s) := by
  go_enter Tryz.func28, Tryz.ntmps28
  go_wp2
  refine bodyPost_ret (v := .agg #[.int .i64 3, .int .i64 0, .string s, .slice none 0 0, .slice none 0 0]) (by simp [results, Tryz.results28, go_sem]) rfl ⟨rfl, ?_⟩
  exact ((Below.refl _ _).alloc (Nat.le_refl _) _)
set_option maxRecDepth 100000 in
set_option maxHeartbeats 1000000 in
theorem int_any (n : Int) (w : World) : Calls Tryz.prog 29 #[.int .i64 n] w (Tells1 w 2 n ⟨#[]⟩) := by
  go_enter Tryz.func29, Tryz.ntmps29
  go_wp2
  refine bodyPost_ret (v := .agg #[.int .i64 2, .int .i64 n, .string ⟨#[]⟩, .slice none 0 0, .slice none 0 0]) (by simp [results, Tryz.results29, go_sem]) rfl ⟨rfl, ?_⟩
  exact ((Below.refl _ _).alloc (Nat.le_refl _) _)
set_option maxRecDepth 100000 in
set_option maxHeartbeats 1000000 in
theorem bool_any (b : Bool) (w : World) : Calls Tryz.prog 30 #[.bool b] w (Tells1 w 1 (if b then 1 else 0) ⟨#[]⟩) := by
  cases b
  · go_enter Tryz.func30, Tryz.ntmps30
    go_wp2
    refine bodyPost_ret (v := .agg #[.int .i64 1, .int .i64 0, .string ⟨#[]⟩, .slice none 0 0, .slice none 0 0]) (by simp [results, Tryz.results30, go_sem]) rfl ⟨rfl, ?_⟩
    exact (((Below.refl _ _).alloc (Nat.le_refl _) _).alloc (by simp) _)
  · go_enter Tryz.func30, Tryz.ntmps30
    go_wp2
    refine bodyPost_ret (v := .agg #[.int .i64 1, .int .i64 1, .string ⟨#[]⟩, .slice none 0 0, .slice none 0 0]) (by simp [results, Tryz.results30, go_sem]) rfl ⟨rfl, ?_⟩
    exact (((Below.refl _ _).alloc (Nat.le_refl _) _).alloc (by simp) _)
end Go.Proofs.YtblheibknpphkaaGreatDoor
namespace Go.Proofs.YtblheibknpphkaaGreatDoor
open Go Go.RowKit
theorem zeroJs : (Tryz.prog.info? 26).map (·.zero) = some (some (.agg zeros5.toArray)) := by kernel_rfl
theorem mid_below {wr w1 w2 w3 : World} {g : Nat} (h1 : Below wr.heap.size wr w1) (h2 : w1.grownBy w2 none) (hg : w1.heap.size ≤ g) (h3 : w2.grownBy w3 (some g)) : Below wr.heap.size wr w3 :=
  (h1.grown h2 h1.size (by simp)).grown h3 (Nat.le_trans h1.size h2.size) (by intro k hk; injection hk with hk; have := h1.size; omega)
end Go.Proofs.YtblheibknpphkaaGreatDoor
