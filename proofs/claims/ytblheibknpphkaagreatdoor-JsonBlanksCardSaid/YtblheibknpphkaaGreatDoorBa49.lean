/- JbBack, JbBack2, JbGood: merged. -/
import Derived.Test.YtblheibknpphkaaGreatDoorBa15
import Derived.Test.YtblheibknpphkaaGreatDoorBa41
import Derived.Test.YtblheibknpphkaaGreatDoorBa46
import Derived.Test.YtblheibknpphkaaGreatDoorBa47
import Derived.Test.YtblheibknpphkaaGreatDoorBa48
set_option linter.all false
namespace Go.Proofs.YtblheibknpphkaaGreatDoor
open Go
/-- May a value be, if so many more may be, and so many lists in one another? -/
def Fits (j : J) (left : Int) (d : Nat) : Prop := (szJ j : Int) ≤ left ∧ dpJ j ≤ d
/-- What is told of a value whose text ends at e. -/
def VB (l : List Int) (e d : Nat) (left : Int) (j : J) (r : VR) : Prop := (Fits j left d → r = (j, skipL l e, left - (szJ j : Int), 0)) ∧ (¬ Fits j left d → r.2.2.2 ≠ 0)
theorem VB.bad {l : List Int} {e d : Nat} {left : Int} {j : J} {r : VR} (h : ¬ Fits j left d) (hr : r.2.2.2 ≠ 0) : VB l e d left j r := ⟨fun hf => absurd hf h, fun _ => hr⟩
theorem VB.good {l : List Int} {e d : Nat} {left : Int} {j : J} {r : VR} (h : Fits j left d) (hr : r = (j, skipL l e, left - (szJ j : Int), 0)) : VB l e d left j r := ⟨fun _ => hr, fun hn => absurd h hn⟩
/-- Where a value is read of its text, nothing of a number behind it. -/
def Reads (l : List Int) (d : Nat) (j : J) (val : Nat → Int → VR) : Prop := ∀ (i : Nat) (left : Int), 0 ≤ left → At l i (textL j) → isD (atL l (i + (textL j).length)) = false → VB l (i + (textL j).length) d left j (val i left)
theorem utf_of {s : ByteArray} (h : utfS s = true) : badU (strL s) = (strL s).length := by unfold utfS at h; exact of_decide_eq_true h
/-- How a text begins. -/
theorem text_first {j : J} (h : Rt j) : ∃ c r, textL j = c :: r ∧ beginsV c = true := by
  cases h with
  | mk kind n s l k a1 a2 a3 a4 =>
    rw [textL]
    by_cases h0 : kind = 0
    · rw [if_pos h0]; exact ⟨_, _, rfl, by decide⟩
    rw [if_neg h0]
    by_cases h1 : kind = 1
    · rw [if_pos h1]; split
      · exact ⟨_, _, rfl, by decide⟩
      · exact ⟨_, _, rfl, by decide⟩
    rw [if_neg h1]
    by_cases h2 : kind = 2
    · rw [if_pos h2]
      have hd : ∀ m : Nat, ∃ c r, digL m = c :: r ∧ 48 ≤ c ∧ c ≤ 57 := fun m => by
        cases hm : digL m with
        | nil => exact absurd hm (digL_ne m)
        | cons c r => exact ⟨c, r, rfl, digL_digits m c (by rw [hm]; simp)⟩
      unfold prL
      split
      · exact ⟨_, _, rfl, by decide⟩
      · obtain ⟨c, r, e, x, y⟩ := hd n.natAbs
        exact ⟨c, r, e, by unfold beginsV; rw [decide_eq_true_eq]; omega⟩
    rw [if_neg h2]
    by_cases h3 : kind = 3
    · rw [if_pos h3, quoteL_is]; exact ⟨_, _, rfl, by decide⟩
    rw [if_neg h3]
    by_cases h4 : kind = 4
    · rw [if_pos h4]; exact ⟨91, itemsL false true l k ++ [93], rfl, by decide⟩
    rw [if_neg h4]
    rcases a3 with a | a | a
    · exact absurd a h4
    · rw [if_pos a]; exact ⟨123, itemsL true true l k ++ [125], rfl, by decide⟩
    · rcases leaf_kind a with a | a | a | a
      · exact absurd a h0
      · exact absurd a h1
      · exact absurd a h2
      · exact absurd a h3
theorem begins_facts {c : Int} (h : beginsV c = true) : ¬ isB c = true ∧ c ≠ 93 ∧ c ≠ 125 ∧ c ≠ 44 ∧ c ≠ 58 ∧ 0 ≤ c := by
  unfold beginsV at h
  unfold isB
  rw [decide_eq_true_eq] at h ⊢
  omega
theorem noB_of {c : Int} (h : c = 44 ∨ c = 93 ∨ c = 125 ∨ c = 58 ∨ c = 34) : ¬ isB c = true := by unfold isB; rw [decide_eq_true_eq]; omega
theorem noD_of {c : Int} (h : c = 44 ∨ c = 93 ∨ c = 125 ∨ c = -1 ∨ c = 32 ∨ c = 9 ∨ c = 10 ∨ c = 13) : isD c = false := isD_false.2 (by omega)
theorem text_at {l : List Int} {j : J} {i : Nat} (h : Rt j) (ha : At l i (textL j)) : beginsV (atL l i) = true := by
  obtain ⟨c, r, e, hb⟩ := text_first h
  rw [e] at ha
  rw [ha.one.1]; exact hb
/-! ### Lists -/
theorem items_next (rest : List J) (k : List ByteArray) : ∃ c r, itemsL false false rest k ++ [93] = c :: r ∧ (c = 44 ∨ c = 93) := by
  cases rest with
  | nil => exact ⟨93, [], by rw [itemsL]; rfl, .inr rfl⟩
  | cons x r => rw [itemsL, if_neg (by simp)]; exact ⟨_, _, rfl, .inl rfl⟩
theorem many_back (l : List Int) (d : Nat) (val : Nat → Int → VR) : ∀ (rest : List J), (∀ x ∈ rest, Rt x ∧ Reads l d x val) → ∀ (f : Nat) (first : Bool) (i : Nat) (left : Int) (vs : List J) (k : List ByteArray), 0 ≤ left → rest.length < f → At l i (itemsL false first rest k ++ [93]) →
    ((szLs rest : Int) ≤ left ∧ dpLs rest ≤ d → manyGo l val false f first i left [] vs = (.mk 4 0 ⟨#[]⟩ (vs ++ rest) [], skipL l (i + (itemsL false first rest k).length + 1), left - (szLs rest : Int), 0)) ∧
    (¬ ((szLs rest : Int) ≤ left ∧ dpLs rest ≤ d) → (manyGo l val false f first i left [] vs).2.2.2 ≠ 0)
  | _, _, 0, _, _, _, _, _, _, hf, _ => absurd hf (Nat.not_lt_zero _)
  | [], _, f + 1, first, i, left, vs, k, h0, _, ha => by
    rw [itemsL] at ha ⊢
    obtain ⟨h93, _⟩ := At.one (r := []) ha
    rw [manyGo, if_pos (by simpa using h93), szLs, dpLs, List.append_nil]
    exact ⟨fun _ => by simp, fun h => absurd ⟨by simpa using h0, Nat.zero_le _⟩ h⟩
  | x :: r, hall, f + 1, first, i, left, vs, k, h0, hf, ha => by
    obtain ⟨hx, hrd⟩ := hall x (by simp)
    obtain ⟨cn, rn, hn, hcn⟩ := items_next r k.tail
    -- where the value stands
    have hitem : ∀ a : Nat, At l a (textL x ++ (itemsL false false r k.tail ++ [93])) →
        ((szLs (x :: r) : Int) ≤ left ∧ dpLs (x :: r) ≤ d → itemL l val false (manyGo l val false f false) a left ⟨#[]⟩ [] vs = (.mk 4 0 ⟨#[]⟩ (vs ++ x :: r) [], skipL l (a + (textL x).length + (itemsL false false r k.tail).length + 1), left - (szLs (x :: r) : Int), 0)) ∧
        (¬ ((szLs (x :: r) : Int) ≤ left ∧ dpLs (x :: r) ≤ d) → (itemL l val false (manyGo l val false f false) a left ⟨#[]⟩ [] vs).2.2.2 ≠ 0) := fun a hat => by
      obtain ⟨hat1, hat2⟩ := At.app.1 hat
      have hnext := hat2
      rw [hn] at hnext
      have hc := hnext.one.1
      have hv := hrd a left h0 hat1 (noD_of (by rw [hc]; omega))
      rw [szLs, dpLs]
      by_cases hfit : Fits x left d
      · have e := hv.1 hfit
        have hsk : skipL l (a + (textL x).length) = a + (textL x).length := skipL_stop (noB_of (by rw [hc]; omega))
        obtain ⟨f1, f2⟩ := hfit
        have ih := many_back l d val r (fun y hy => hall y (List.mem_cons_of_mem _ hy)) f false (a + (textL x).length) (left - (szJ x : Int)) (vs ++ [x]) k.tail (by omega) (by simp at hf; omega) hat2
        have e2 : itemL l val false (manyGo l val false f false) a left ⟨#[]⟩ [] vs = manyGo l val false f false (a + (textL x).length) (left - (szJ x : Int)) [] (vs ++ [x]) := by
          unfold itemL
          rw [e, if_neg (by simp), hsk, if_neg (by simp only [Bool.false_eq_true, if_false]; omega), if_neg (by simp)]
        rw [e2]
        refine ⟨fun h => ?_, fun h => ih.2 fun hh => h ⟨by omega, by omega⟩⟩
        rw [ih.1 ⟨by omega, by omega⟩, List.append_assoc]
        congr 3
        omega
      · have e := hv.2 hfit
        refine ⟨fun h => absurd ⟨by omega, by omega⟩ hfit, fun _ => ?_⟩
        unfold itemL
        rw [if_pos e]; exact e
    cases first with
    | true =>
      rw [itemsL, if_pos rfl, if_neg (by simp), List.nil_append, List.nil_append] at ha ⊢
      rw [List.append_assoc] at ha
      have hb := begins_facts (text_at hx (At.app.1 ha).1)
      rw [manyGo, if_neg (by simp; omega), if_pos rfl]
      unfold membL
      rw [if_neg (by simp)]
      have := hitem i ha
      rwa [List.length_append, ← Nat.add_assoc]
    | false =>
      rw [itemsL, if_neg (by simp), if_neg (by simp), List.nil_append, List.append_assoc] at ha
      rw [itemsL, if_neg (by simp), if_neg (by simp), List.nil_append]
      obtain ⟨h44, ha2⟩ := At.one (r := textL x ++ itemsL false false r k.tail ++ [93]) ha
      rw [List.append_assoc] at ha2
      have hb := begins_facts (text_at hx (At.app.1 ha2).1)
      have hsk : skipL l (i + 1) = i + 1 := skipL_stop hb.1
      rw [manyGo, if_neg (by simp; omega), if_neg (by simp), if_neg (by omega), hsk]
      unfold membL
      rw [if_neg (by simp)]
      have := hitem (i + 1) ha2
      have hl : ([44] ++ (textL x ++ itemsL false false r k.tail) : List Int).length = 1 + (textL x).length + (itemsL false false r k.tail).length := by simp; omega
      rwa [hl, ← Nat.add_assoc, ← Nat.add_assoc]
/-! ### Objects -/
/-- Members, each at its place, blanks as they come, the end at e. -/
def MemT (l : List Int) (d : Nat) (val : Nat → Int → VR) : Bool → Nat → List (ByteArray × J) → Nat → Prop
  | _, i, [], e => i = e ∧ atL l e = 125
  | first, i, (t, x) :: r, e => ∃ i1 i2, (if first = true then i1 = i else atL l i = 44 ∧ i1 = skipL l (i + 1)) ∧ utfS t = true ∧ At l i1 (quoteL (strL t)) ∧ atL l (skipL l (i1 + (quoteL (strL t)).length)) = 58 ∧
      i2 = skipL l (skipL l (i1 + (quoteL (strL t)).length) + 1) ∧ Reads l d x val ∧ At l i2 (textL x) ∧ isD (atL l (i2 + (textL x).length)) = false ∧ MemT l d val false (skipL l (i2 + (textL x).length)) r e
theorem MemT.next {l : List Int} {d : Nat} {val : Nat → Int → VR} {i e : Nat} {ms : List (ByteArray × J)} (h : MemT l d val false i ms e) : atL l i = 44 ∨ atL l i = 125 := by
  cases ms with
  | nil => obtain ⟨rfl, h⟩ := h; exact .inr h
  | cons m r => obtain ⟨i1, i2, h, _⟩ := h; rw [if_neg (by simp)] at h; exact .inl h.1
theorem toS_quoted {t : ByteArray} {l : List Int} {i : Nat} (hu : utfS t = true) (h : At l i (quoteL (strL t))) : quotedL l i = (strL t, i + (quoteL (strL t)).length, 0) := quoted_at (strL_bd t) (utf_of hu) h
def putsF (ms : List (ByteArray × J)) (a : List ByteArray × List J) : List ByteArray × List J := ms.foldl (fun a m => putKL m.1 m.2 false a.1 a.2) a
theorem obj_back (l : List Int) (d : Nat) (val : Nat → Int → VR) : ∀ (ms : List (ByteArray × J)) (f : Nat) (first : Bool) (i e : Nat) (left : Int) (ks : List ByteArray) (vs : List J), MemT l d val first i ms e → (first = true → ms ≠ [] → atL l i = 34) → ms.length < f → 0 ≤ left → (∀ m ∈ ms, hasK ks m.1 = false) → (ms.map Prod.fst).Nodup →
    ((szLs (ms.map Prod.snd) : Int) ≤ left ∧ dpLs (ms.map Prod.snd) ≤ d → manyGo l val true f first i left ks vs = (.mk 5 0 ⟨#[]⟩ (putsF ms (ks, vs)).2 (putsF ms (ks, vs)).1, skipL l (e + 1), left - (szLs (ms.map Prod.snd) : Int), 0)) ∧
    (¬ ((szLs (ms.map Prod.snd) : Int) ≤ left ∧ dpLs (ms.map Prod.snd) ≤ d) → (manyGo l val true f first i left ks vs).2.2.2 ≠ 0)
  | _, 0, _, _, _, _, _, _, _, _, hf, _, _, _ => absurd hf (Nat.not_lt_zero _)
  | [], f + 1, first, i, e, left, ks, vs, hm, _, _, h0, _, _ => by
    obtain ⟨rfl, h125⟩ := hm
    rw [manyGo, if_pos (by simpa using h125), List.map_nil, szLs, dpLs]
    exact ⟨fun _ => by simp [putsF], fun h => absurd ⟨by simpa using h0, Nat.zero_le _⟩ h⟩
  | (t, x) :: r, f + 1, first, i, e, left, ks, vs, hm, h34, hf, h0, hks, hnd => by
    obtain ⟨i1, i2, hi1, hu, hq, h58, hi2, hrd, hat, hnd2, hrest⟩ := hm
    have hqt := toS_quoted hu hq
    have hh : hasK ks t = false := hks (t, x) (by simp)
    rw [List.map_cons, List.nodup_cons] at hnd
    have hv := hrd i2 left h0 hat hnd2
    have hnx := hrest.next
    rw [show ((t, x) :: r).map Prod.snd = x :: r.map Prod.snd from rfl]
    have hmemb : ((szLs (x :: r.map Prod.snd) : Int) ≤ left ∧ dpLs (x :: r.map Prod.snd) ≤ d → membL l val true (manyGo l val true f false) i1 left ks vs = (.mk 5 0 ⟨#[]⟩ (putsF ((t, x) :: r) (ks, vs)).2 (putsF ((t, x) :: r) (ks, vs)).1, skipL l (e + 1), left - (szLs (x :: r.map Prod.snd) : Int), 0)) ∧
        (¬ ((szLs (x :: r.map Prod.snd) : Int) ≤ left ∧ dpLs (x :: r.map Prod.snd) ≤ d) → (membL l val true (manyGo l val true f false) i1 left ks vs).2.2.2 ≠ 0) := by
      have e1 : membL l val true (manyGo l val true f false) i1 left ks vs = itemL l val true (manyGo l val true f false) i2 left t ks vs := by
        unfold membL
        rw [hqt, if_pos rfl, if_neg (by simp)]
        simp only []
        rw [toS_strL, hh, if_neg (by simp), if_neg (fun h => h h58), ← hi2]
      rw [e1, szLs, dpLs]
      by_cases hfit : Fits x left d
      · have e2 := hv.1 hfit
        obtain ⟨f1, f2⟩ := hfit
        have hks2 : ∀ m ∈ r, hasK (putKL t x false ks vs).1 m.1 = false := fun m hm => by
          rw [hasK_put, if_neg (fun e => hnd.1 (by rw [show (t, x).1 = m.1 from e]; exact List.mem_map_of_mem hm))]
          exact hks m (List.mem_cons_of_mem _ hm)
        have ih := obj_back l d val r f false (skipL l (i2 + (textL x).length)) e (left - (szJ x : Int)) (putKL t x false ks vs).1 (putKL t x false ks vs).2 hrest (fun h => by cases h) (by simp at hf; omega) (by omega) hks2 hnd.2
        have e3 : itemL l val true (manyGo l val true f false) i2 left t ks vs = manyGo l val true f false (skipL l (i2 + (textL x).length)) (left - (szJ x : Int)) (putKL t x false ks vs).1 (putKL t x false ks vs).2 := by
          unfold itemL
          rw [e2, if_neg (by simp), if_neg (by simp only [if_true]; omega), if_pos rfl]
        rw [e3]
        refine ⟨fun h => ?_, fun h => ih.2 fun hh => h ⟨by omega, by omega⟩⟩
        rw [ih.1 ⟨by omega, by omega⟩]
        have e4 : putsF ((t, x) :: r) (ks, vs) = putsF r ((putKL t x false ks vs).1, (putKL t x false ks vs).2) := rfl
        rw [e4]
        congr 3
        omega
      · have e2 := hv.2 hfit
        refine ⟨fun h => absurd ⟨by omega, by omega⟩ hfit, fun _ => ?_⟩
        unfold itemL
        rw [if_pos e2]; exact e2
    cases first with
    | true =>
      rw [if_pos rfl] at hi1
      subst hi1
      have := h34 rfl (by simp)
      rw [manyGo, if_neg (by simp; omega), if_pos rfl]
      exact hmemb
    | false =>
      rw [if_neg (by simp)] at hi1
      obtain ⟨h44, rfl⟩ := hi1
      rw [manyGo, if_neg (by simp; omega), if_neg (by simp), if_neg (by omega)]
      exact hmemb
end Go.Proofs.YtblheibknpphkaaGreatDoor
namespace Go.Proofs.YtblheibknpphkaaGreatDoor
open Go
theorem rnL_pair : ∀ (k : List ByteArray) (p : Option ByteArray), rnL p k = true → k.Pairwise (fun a b => Op.bytesLess a.toList b.toList = true) ∧ (∀ q, p = some q → ∀ t ∈ k, Op.bytesLess q.toList t.toList = true) ∧ ∀ t ∈ k, utfS t = true
  | [], p, _ => ⟨List.Pairwise.nil, fun _ _ t ht => (by cases ht), fun t ht => (by cases ht)⟩
  | t :: r, p, h => by
    rw [rnL_cons, Bool.and_eq_true, Bool.and_eq_true] at h
    obtain ⟨⟨h1, h2⟩, h3⟩ := h
    obtain ⟨i1, i2, i3⟩ := rnL_pair r (some t) h3
    refine ⟨List.pairwise_cons.2 ⟨fun y hy => i2 t rfl y hy, i1⟩, fun q hq y hy => ?_, fun y hy => ?_⟩
    · subst hq
      rcases List.mem_cons.1 hy with rfl | hy
      · exact h2
      · exact less_trans _ _ _ h2 (i2 t rfl y hy)
    · rcases List.mem_cons.1 hy with rfl | hy
      · exact h1
      · exact i3 y hy
theorem zip_rises {k : List ByteArray} {ls : List J} (hl : k.length = ls.length) (h : rnL none k = true) : Rises (k.zip ls) ∧ ((k.zip ls).map Prod.fst).Nodup ∧ (k.zip ls).map Prod.fst = k ∧ (k.zip ls).map Prod.snd = ls := by
  have e1 : (k.zip ls).map Prod.fst = k := List.map_fst_zip (by omega)
  have e2 : (k.zip ls).map Prod.snd = ls := List.map_snd_zip (by omega)
  obtain ⟨h1, _, _⟩ := rnL_pair k none h
  refine ⟨?_, ?_, e1, e2⟩
  · unfold Rises
    have := h1
    rw [← e1] at this
    exact List.pairwise_map.1 this
  · rw [e1]
    refine h1.imp fun {a b} hab e => ?_
    subst e
    rw [less_self] at hab; cases hab
theorem mem_at (l : List Int) (d : Nat) (val : Nat → Int → VR) : ∀ (ls : List J) (k : List ByteArray), k.length = ls.length → (∀ t ∈ k, utfS t = true) → (∀ x ∈ ls, Rt x ∧ Reads l d x val) → ∀ (first : Bool) (i : Nat), At l i (itemsL true first ls k ++ [125]) →
    MemT l d val first i (k.zip ls) (i + (itemsL true first ls k).length) ∧ (first = true → ls ≠ [] → atL l i = 34)
  | [], k, hl, _, _, first, i, ha => by
    obtain rfl : k = [] := List.eq_nil_of_length_eq_zero hl
    rw [itemsL] at ha ⊢
    exact ⟨⟨rfl, (At.one (r := []) ha).1⟩, fun _ h => absurd rfl h⟩
  | x :: r, [], hl, _, _, _, _, _ => by cases hl
  | x :: r, t :: k, hl, hu, hall, first, i, ha => by
    obtain ⟨hx, hrd⟩ := hall x (by simp)
    obtain ⟨cn, rn, hn, hcn⟩ : ∃ c q, itemsL true false r k ++ [125] = c :: q ∧ (c = 44 ∨ c = 125) := by
      cases r with
      | nil => exact ⟨125, [], by rw [itemsL]; rfl, .inr rfl⟩
      | cons y r => rw [itemsL, if_neg (by simp)]; exact ⟨_, _, rfl, .inl rfl⟩
    have main : ∀ i1 : Nat, At l i1 (quoteL (strL t) ++ ([58] ++ (textL x ++ (itemsL true false r k ++ [125])))) →
        atL l i1 = 34 ∧ At l i1 (quoteL (strL t)) ∧ atL l (skipL l (i1 + (quoteL (strL t)).length)) = 58 ∧ ∃ i2, i2 = skipL l (skipL l (i1 + (quoteL (strL t)).length) + 1) ∧ At l i2 (textL x) ∧ isD (atL l (i2 + (textL x).length)) = false ∧ MemT l d val false (skipL l (i2 + (textL x).length)) (k.zip r) (i1 + (quoteL (strL t)).length + 1 + (textL x).length + (itemsL true false r k).length) := fun i1 h => by
      obtain ⟨q1, q2⟩ := At.app.1 h
      obtain ⟨q3, q4⟩ := At.one (r := textL x ++ (itemsL true false r k ++ [125])) q2
      obtain ⟨q5, q6⟩ := At.app.1 q4
      have hq0 := q1
      rw [quoteL_is] at hq0
      have s1 : skipL l (i1 + (quoteL (strL t)).length) = i1 + (quoteL (strL t)).length := skipL_stop (noB_of (by rw [q3]; omega))
      have s2 : skipL l (i1 + (quoteL (strL t)).length + 1) = i1 + (quoteL (strL t)).length + 1 := skipL_stop (begins_facts (text_at hx q5)).1
      have q7 := q6
      rw [hn] at q7
      have hc := q7.one.1
      have s3 : skipL l (i1 + (quoteL (strL t)).length + 1 + (textL x).length) = i1 + (quoteL (strL t)).length + 1 + (textL x).length := skipL_stop (noB_of (by rw [hc]; omega))
      refine ⟨hq0.one.1, q1, by rw [s1]; exact q3, _, rfl, ?_⟩
      rw [s1, s2]
      refine ⟨q5, noD_of (by rw [hc]; omega), ?_⟩
      rw [s3]
      exact (mem_at l d val r k (by simpa using hl) (fun y hy => hu y (List.mem_cons_of_mem _ hy)) (fun y hy => hall y (List.mem_cons_of_mem _ hy)) false _ q6).1
    rw [itemsL, if_pos rfl] at ha ⊢
    simp only [List.headD_cons, List.tail_cons, List.append_assoc] at ha ⊢
    cases first with
    | true =>
      rw [if_pos rfl, List.nil_append] at ha ⊢
      obtain ⟨m0, m1, m2, i2, m3, m4, m5, m6⟩ := main i ha
      refine ⟨⟨i, i2, by rw [if_pos rfl], hu t (by simp), m1, m2, m3, hrd, m4, m5, ?_⟩, fun _ _ => m0⟩
      have hl : (quoteL (strL t) ++ ([58] ++ (textL x ++ itemsL true false r k)) : List Int).length = (quoteL (strL t)).length + 1 + (textL x).length + (itemsL true false r k).length := by simp; omega
      rwa [hl, ← Nat.add_assoc, ← Nat.add_assoc, ← Nat.add_assoc]
    | false =>
      rw [if_neg (by simp)] at ha ⊢
      obtain ⟨h44, ha2⟩ := At.one (r := quoteL (strL t) ++ ([58] ++ (textL x ++ (itemsL true false r k ++ [125])))) ha
      obtain ⟨m0, m1, m2, i2, m3, m4, m5, m6⟩ := main (i + 1) ha2
      refine ⟨⟨i + 1, i2, by rw [if_neg (by simp)]; exact ⟨h44, (skipL_stop (noB_of (by rw [m0]; omega))).symm⟩, hu t (by simp), m1, m2, m3, hrd, m4, m5, ?_⟩, fun h => by cases h⟩
      have hl : ([44] ++ (quoteL (strL t) ++ ([58] ++ (textL x ++ itemsL true false r k))) : List Int).length = 1 + (quoteL (strL t)).length + 1 + (textL x).length + (itemsL true false r k).length := by simp; omega
      rwa [hl, ← Nat.add_assoc, ← Nat.add_assoc, ← Nat.add_assoc, ← Nat.add_assoc]
theorem items_len (o : Bool) : ∀ (ls : List J) (f : Bool) (k : List ByteArray), (∀ x ∈ ls, Rt x) → ls.length ≤ (itemsL o f ls k).length
  | [], _, _, _ => Nat.zero_le _
  | x :: r, f, k, h => by
    obtain ⟨c, q, e, _⟩ := text_first (h x (by simp))
    have := items_len o r false k.tail (fun y hy => h y (List.mem_cons_of_mem _ hy))
    rw [itemsL, e]
    simp only [List.length_append, List.length_cons]
    omega
theorem prL_first (n : Int) : ∃ c r, prL n = c :: r ∧ (c = 45 ∨ (48 ≤ c ∧ c ≤ 57)) := by
  have hd : ∀ m : Nat, ∃ c r, digL m = c :: r ∧ 48 ≤ c ∧ c ≤ 57 := fun m => by
    cases hm : digL m with
    | nil => exact absurd hm (digL_ne m)
    | cons c r => exact ⟨c, r, rfl, digL_digits m c (by rw [hm]; simp)⟩
  unfold prL
  split
  · exact ⟨_, _, rfl, .inl rfl⟩
  · obtain ⟨c, r, e, x, y⟩ := hd n.natAbs
    exact ⟨c, r, e, .inr ⟨x, y⟩⟩
theorem skip_at {l : List Int} {i : Nat} {c : Int} (h : atL l i = c) (hc : ¬ isB c = true) : skipL l i = i := skipL_stop (by rw [h]; exact hc)
/-- A right value's text is read as it, as far as so many and so deep may be. -/
theorem value_back (j : J) : Rt j → ∀ (l : List Int) (d : Nat), Reads l d j (valueL l d) := by
  induction j using J.ind with
  | h kind n s ls k ih =>
    intro hr l d i left h0 ha hnd
    have hb := text_at hr ha
    cases hr with
    | mk _ _ _ _ _ a1 a2 a3 a4 =>
    obtain ⟨M, hM, hM0, hM1⟩ : ∃ M, valueL l d = valF l M ∧ (d = 0 → ∀ i left, (M i left).2.2.2 ≠ 0) ∧ (∀ d', d = d' + 1 → M = manyL l (valueL l d')) := by
      cases d with
      | zero => exact ⟨_, valueL.eq_1 l, fun _ i left => (by show (51 : Int) ≠ 0; decide), fun d' h => (by cases h)⟩
      | succ d => exact ⟨_, valueL.eq_2 l d, fun h => (by cases h), fun d' h => by injection h with h; subst h; rfl⟩
    rw [hM]
    by_cases hleft : left - 1 < 0
    · refine VB.bad (fun h => by have := h.1; have := szJ_pos (.mk kind n s ls k); omega) ?_
      unfold valF
      rw [if_neg (by rw [hb]; simp), if_pos hleft]
      show (53 : Int) ≠ 0
      decide
    -- what is no list and no object
    have leaf : kind ≠ 4 → kind ≠ 5 → ls = [] ∧ k = [] ∧ Fits (.mk kind n s ls k) left d ∧ (szJ (.mk kind n s ls k) : Int) = 1 := fun h4 h5 => by
      obtain ⟨p, q⟩ := clean_l a1 h4 h5
      obtain rfl := List.eq_nil_of_length_eq_zero p
      obtain rfl := List.eq_nil_of_length_eq_zero q
      have e : szJ (.mk kind n s [] []) = 1 := by rw [szJ, szLs]
      refine ⟨rfl, rfl, ⟨by rw [e]; omega, ?_⟩, by rw [e]; rfl⟩
      rw [dpJ, if_neg (fun h => h.elim h4 h5)]; exact Nat.zero_le _
    have fin : ∀ {j : J} {p q : Nat}, p = q → ((j, skipL l p, left - 1, (0 : Int)) : VR) = (j, skipL l q, left - 1, 0) := fun h => by rw [h]
    rcases a3 with a | a | a
    · -- a list
      subst a
      obtain rfl := clean_n a1 (by decide) (by decide)
      obtain rfl := clean_s a1 (by decide)
      obtain rfl : k = [] := List.eq_nil_of_length_eq_zero (clean_q a1 (by decide))
      have ht : textL (.mk 4 0 ⟨#[]⟩ ls []) = [91] ++ (itemsL false true ls [] ++ [93]) := by rw [textL]; rfl
      rw [ht] at ha
      obtain ⟨h91, ha2⟩ := At.one (r := itemsL false true ls [] ++ [93]) ha
      have hval : valF l M i left = M i (left - 1) := by
        unfold valF
        rw [h91, if_neg (by decide), if_neg hleft, if_neg (by decide), if_neg (by decide), if_neg (by decide), if_neg (by decide), if_neg (by decide)]
      rw [hval]
      cases d with
      | zero => exact VB.bad (fun h => by have := h.2; rw [dpJ, if_pos (.inl rfl)] at this; omega) (hM0 rfl _ _)
      | succ d =>
        rw [hM1 d rfl]
        have hsk : skipL l (i + 1) = i + 1 := by
          cases ls with
          | nil => exact skip_at (At.one (r := []) ha2).1 (by decide)
          | cons x r =>
            rw [itemsL, if_pos rfl, if_neg (by simp), List.nil_append, List.nil_append, List.append_assoc] at ha2
            exact skip_at rfl (begins_facts (text_at (a4 x (by simp)) (At.app.1 ha2).1)).1
        have hlen := ha2.le (by simp)
        have hil := items_len false ls true [] a4
        rw [List.length_append, List.length_singleton] at hlen
        have hmb := many_back l d (valueL l d) ls (fun x hx => ⟨a4 x hx, ih x hx (a4 x hx) l d⟩) (l.length + 1) true (i + 1) (left - 1) [] [] (by omega) (by omega) ha2
        have e1 : manyL l (valueL l d) i (left - 1) = manyGo l (valueL l d) false (l.length + 1) true (i + 1) (left - 1) [] [] := by
          unfold manyL
          rw [h91, hsk]; rfl
        rw [e1, ht]
        have hfit : Fits (.mk 4 0 ⟨#[]⟩ ls []) left (d + 1) ↔ ((szLs ls : Int) ≤ left - 1 ∧ dpLs ls ≤ d) := by
          unfold Fits
          rw [szJ, dpJ, if_pos (.inl rfl)]
          constructor <;> rintro ⟨p, q⟩ <;> exact ⟨by omega, by omega⟩
        refine ⟨fun h => ?_, fun h => hmb.2 (fun hh => h (hfit.2 hh))⟩
        rw [hmb.1 (hfit.1 h), szJ, List.nil_append]
        rw [show i + 1 + (itemsL false true ls []).length + 1 = i + ([91] ++ (itemsL false true ls [] ++ [93])).length by simp; omega]
        congr 3
        omega
    · -- an object
      subst a
      obtain rfl := clean_n a1 (by decide) (by decide)
      obtain rfl := clean_s a1 (by decide)
      obtain ⟨hkl, hrn⟩ := a2 rfl
      obtain ⟨hri, hnd2, hz1, hz2⟩ := zip_rises hkl hrn
      have ht : textL (.mk 5 0 ⟨#[]⟩ ls k) = [123] ++ (itemsL true true ls k ++ [125]) := by rw [textL]; rfl
      rw [ht] at ha
      obtain ⟨h123, ha2⟩ := At.one (r := itemsL true true ls k ++ [125]) ha
      have hval : valF l M i left = M i (left - 1) := by
        unfold valF
        rw [h123, if_neg (by decide), if_neg hleft, if_neg (by decide), if_neg (by decide), if_neg (by decide), if_neg (by decide), if_neg (by decide)]
      rw [hval]
      cases d with
      | zero => exact VB.bad (fun h => by have := h.2; rw [dpJ, if_pos (.inr rfl)] at this; omega) (hM0 rfl _ _)
      | succ d =>
        rw [hM1 d rfl]
        obtain ⟨hme, h34⟩ := mem_at l d (valueL l d) ls k hkl (rnL_pair k none hrn).2.2 (fun x hx => ⟨a4 x hx, ih x hx (a4 x hx) l d⟩) true (i + 1) ha2
        have hsk : skipL l (i + 1) = i + 1 := by
          cases ls with
          | nil => exact skip_at (At.one (r := []) ha2).1 (by decide)
          | cons x r => exact skip_at (h34 rfl (by simp)) (by decide)
        have hlen := ha2.le (by simp)
        have hil := items_len true ls true k a4
        rw [List.length_append, List.length_singleton] at hlen
        have hmb := obj_back l d (valueL l d) (k.zip ls) (l.length + 1) true (i + 1) _ (left - 1) [] [] hme (fun _ hne => h34 rfl (fun e => hne (by rw [e]; exact List.zip_nil_right))) (by rw [List.length_zip]; omega) (by omega) (fun _ _ => rfl) hnd2
        have e1 : manyL l (valueL l d) i (left - 1) = manyGo l (valueL l d) true (l.length + 1) true (i + 1) (left - 1) [] [] := by
          unfold manyL
          rw [h123, hsk]; rfl
        have hpt : putsF (k.zip ls) ([], []) = (k, ls) := by
          have := puts_of_rises hnd2 (List.Perm.refl _) hri
          rw [hz1, hz2] at this
          exact this
        rw [hz2, hpt] at hmb
        rw [e1, ht]
        have hfit : Fits (.mk 5 0 ⟨#[]⟩ ls k) left (d + 1) ↔ ((szLs ls : Int) ≤ left - 1 ∧ dpLs ls ≤ d) := by
          unfold Fits
          rw [szJ, dpJ, if_pos (.inr rfl)]
          constructor <;> rintro ⟨p, q⟩ <;> exact ⟨by omega, by omega⟩
        refine ⟨fun h => ?_, fun h => hmb.2 (fun hh => h (hfit.2 hh))⟩
        rw [hmb.1 (hfit.1 h), szJ]
        rw [show i + 1 + (itemsL true true ls k).length + 1 = i + ([123] ++ (itemsL true true ls k ++ [125])).length by simp; omega]
        congr 3
        omega
    · have hk := leaf_kind a
      obtain ⟨e1, e2, hfit, hsz⟩ := leaf (by omega) (by omega)
      subst e1; subst e2
      refine VB.good hfit ?_
      rw [hsz]
      rcases hk with rfl | rfl | rfl | rfl
      · obtain rfl := clean_n a1 (by decide) (by decide)
        obtain rfl := clean_s a1 (by decide)
        have ht : textL (.mk 0 0 ⟨#[]⟩ [] []) = [110, 117, 108, 108] := by rw [textL]; rfl
        rw [ht] at ha ⊢
        have hc := ha.one.1
        unfold valF
        rw [hc, if_neg (by decide), if_neg hleft, if_neg (by decide), if_pos rfl, wordL_at _ _ ha]
        rfl
      · obtain rfl := clean_s a1 (by decide)
        have hn : n = 0 ∨ n = 1 := by
          unfold leafR at a
          rw [if_neg (by decide), if_pos rfl, Bool.or_eq_true, decide_eq_true_eq, decide_eq_true_eq] at a
          exact a
        rcases hn with rfl | rfl
        · have ht : textL (.mk 1 0 ⟨#[]⟩ [] []) = [102, 97, 108, 115, 101] := by rw [textL]; rfl
          rw [ht] at ha ⊢
          have hc := ha.one.1
          unfold valF
          rw [hc, if_neg (by decide), if_neg hleft, if_neg (by decide), if_neg (by decide), if_neg (by decide), if_pos rfl, wordL_at _ _ ha]
          rfl
        · have ht : textL (.mk 1 1 ⟨#[]⟩ [] []) = [116, 114, 117, 101] := by rw [textL]; rfl
          rw [ht] at ha ⊢
          have hc := ha.one.1
          unfold valF
          rw [hc, if_neg (by decide), if_neg hleft, if_neg (by decide), if_neg (by decide), if_pos rfl, wordL_at _ _ ha]
          rfl
      · obtain rfl := clean_s a1 (by decide)
        have hn : -9007199254740991 ≤ n ∧ n ≤ 9007199254740991 := by
          unfold leafR at a
          rw [if_neg (by decide), if_neg (by decide), if_pos rfl, Bool.and_eq_true, decide_eq_true_eq, decide_eq_true_eq] at a
          exact a
        have ht : textL (.mk 2 n ⟨#[]⟩ [] []) = prL n := by rw [textL]; rfl
        rw [ht] at ha hnd ⊢
        obtain ⟨l1, l2⟩ := lead_at ha (form_prL n) hnd
        obtain ⟨c, r, e, hc⟩ := prL_first n
        have hpos : (prL n).length ≠ 0 := by rw [e]; simp
        have hat : atL l i = c := by rw [e] at ha; exact ha.one.1
        unfold valF
        rw [if_neg (by rw [hb]; simp), if_neg hleft, if_pos (by rw [hat]; exact hc), l1, if_neg hpos, l2, numL_prL, if_pos (by unfold fitL; rw [numL_prL, decide_eq_true_eq]; omega)]
      · obtain rfl := clean_n a1 (by decide) (by decide)
        have hu : utfS s = true := by
          unfold leafR at a
          rw [if_neg (by decide), if_neg (by decide), if_neg (by decide), if_pos rfl] at a
          exact a
        have ht : textL (.mk 3 0 s [] []) = quoteL (strL s) := by rw [textL]; rfl
        rw [ht] at ha ⊢
        have hc : atL l i = 34 := by rw [quoteL_is] at ha; exact ha.one.1
        unfold valF
        rw [hc, if_neg (by decide), if_neg hleft, if_neg (by decide), if_neg (by decide), if_neg (by decide), if_neg (by decide), if_pos rfl, toS_quoted hu ha]
        unfold tellV
        rw [if_neg (by simp), toS_strL]
end Go.Proofs.YtblheibknpphkaaGreatDoor
namespace Go.Proofs.YtblheibknpphkaaGreatDoor
open Go
theorem badU_app : ∀ (n : Nat) (a b : List Int), a.length ≤ n → badU a = a.length → badU (a ++ b) = a.length + badU b
  | _, [], b, _, _ => by rw [List.nil_append, List.length_nil, Nat.zero_add]
  | 0, c :: r, _, h, _ => by simp at h
  | n + 1, c :: r, b, hl, hu => by
    have hv : (nxL (c :: r)).1 ≠ -1 := fun e => by rw [badU_stop e] at hu; cases hu
    have hb := badU_go hv
    obtain ⟨p1, p2, p3, p4, _, p6, p7⟩ := nx_found hv
    obtain ⟨m, hm⟩ : ∃ m, m = (nxL (c :: r)).2 := ⟨_, rfl⟩
    obtain ⟨N, hN⟩ : ∃ N, N = (nxL (c :: r)).1 := ⟨_, rfl⟩
    rw [← hm] at hb p1 p2 p3 p4
    rw [← hN] at p1 p2 p6 p7
    have e : c :: r = putL N ++ (c :: r).drop m := by rw [p1, List.take_append_drop]
    have hnx : nxL (c :: r ++ b) = (N, m) := by
      rw [e, List.append_assoc, nx_put p7, p2]
    have hd : (c :: r ++ b).drop m = (c :: r).drop m ++ b := List.drop_append_of_le_length p4
    have ih := badU_app n ((c :: r).drop m) b (by rw [List.length_drop]; simp only [List.length_cons] at hl ⊢; omega) (by rw [List.length_drop]; omega)
    rw [badU_go (by rw [hnx]; show N ≠ -1; omega), hnx]
    show m + badU ((c :: r ++ b).drop m) = _
    rw [hd, ih, List.length_drop]
    omega
theorem badU_snoc {a t : List Int} (ha : badU a = a.length) (ht : badU t = t.length) : badU (a ++ t) = (a ++ t).length := by
  rw [badU_app _ a t (Nat.le_refl _) ha, ht, List.length_append]
theorem badU_nil : badU [] = 0 := rfl
theorem badU_put (n : Int) : badU (putL n) = (putL n).length := by
  by_cases h : putL n = []
  · rw [h]; rfl
  · have hx := nx_put h []
    rw [List.append_nil] at hx
    have hn : n ≠ -1 := fun e => h (by rw [e]; rfl)
    rw [badU_go (by rw [hx]; exact hn), hx]
    show (putL n).length + badU ((putL n).drop (putL n).length) = _
    rw [List.drop_length, badU_nil, Nat.add_zero]
theorem plain_put (c : Int) : ∃ n, plainL c = putL n := by
  unfold plainL
  split
  · rename_i h; exact ⟨c, (putL_one (by omega) (by omega)).symm⟩
  split
  · exact ⟨8, rfl⟩
  split
  · exact ⟨12, rfl⟩
  split
  · exact ⟨10, rfl⟩
  split
  · exact ⟨13, rfl⟩
  split
  · exact ⟨9, rfl⟩
  · exact ⟨-1, rfl⟩
/-- UTF-8. -/
def UB (t : List Int) : Prop := Bytes t ∧ badU t = t.length
theorem UB.put {t : List Int} (h : UB t) (n : Int) : UB (t ++ putL n) := ⟨h.1.append (putL_bytes n), badU_snoc h.2 (badU_put n)⟩
theorem UB.nil : UB [] := ⟨.of_mem (by simp), rfl⟩
theorem UB.toS {t : List Int} (h : UB t) : utfS (toS t) = true := by
  unfold utfS
  rw [strL_toS h.1]
  exact decide_eq_true h.2
theorem quotL_ub (l : List Int) : ∀ (f i : Nat) (out : List Int), UB out → (quotL l f i out).2.2 = 0 → UB (quotL l f i out).1
  | 0, i, out, _, h => absurd (show (50 : Int) = 0 from h) (by decide)
  | f + 1, i, out, ho, h => by
    rw [quotL] at h ⊢
    by_cases h1 : atL l i < 32
    · rw [if_pos h1] at h; exact absurd (show (50 : Int) = 0 from h) (by decide)
    rw [if_neg h1] at h ⊢
    by_cases h2 : atL l i = 34
    · rw [if_pos h2]; exact ho
    rw [if_neg h2] at h ⊢
    by_cases h3 : atL l i ≠ 92
    · rw [if_pos h3] at h ⊢
      by_cases h4 : (nxL (l.drop i)).1 < 0
      · rw [if_pos h4] at h; exact absurd (show (50 : Int) = 0 from h) (by decide)
      rw [if_neg h4] at h ⊢
      have hf := (nx_found (l := l.drop i) (by omega)).1
      rw [← hf] at h ⊢
      exact quotL_ub l f _ _ (ho.put _) h
    rw [if_neg h3] at h ⊢
    by_cases h5 : atL l (i + 1) ≠ 117
    · rw [if_pos h5] at h ⊢
      by_cases h6 : plainL (atL l (i + 1)) = []
      · rw [if_pos h6] at h; exact absurd (show (50 : Int) = 0 from h) (by decide)
      rw [if_neg h6] at h ⊢
      obtain ⟨n, hn⟩ := plain_put (atL l (i + 1))
      rw [hn] at h ⊢
      exact quotL_ub l f _ _ (ho.put _) h
    rw [if_neg h5] at h ⊢
    by_cases h7 : (hexL l 4 (i + 2) 0).1 < 0
    · rw [if_pos h7] at h; exact absurd (show (50 : Int) = 0 from h) (by decide)
    rw [if_neg h7] at h ⊢
    by_cases h8 : (hexL l 4 (i + 2) 0).1 < 55296 ∨ 57343 < (hexL l 4 (i + 2) 0).1
    · rw [if_pos h8] at h ⊢
      exact quotL_ub l f _ _ (ho.put _) h
    rw [if_neg h8] at h ⊢
    by_cases h9 : 56320 ≤ (hexL l 4 (i + 2) 0).1 ∨ halfL l i < 56320 ∨ 57343 < halfL l i
    · rw [if_pos h9] at h; exact absurd (show (50 : Int) = 0 from h) (by decide)
    rw [if_neg h9] at h ⊢
    exact quotL_ub l f _ _ (ho.put _) h
theorem quotedL_ub (l : List Int) (i : Nat) (h : (quotedL l i).2.2 = 0) : UB (quotedL l i).1 := by
  unfold quotedL at h ⊢
  by_cases h1 : atL l i ≠ 34
  · rw [if_pos h1] at h; exact absurd (show (50 : Int) = 0 from h) (by decide)
  rw [if_neg h1] at h ⊢
  exact quotL_ub l _ _ _ UB.nil h
theorem quotL_max (l : List Int) : ∀ (f i : Nat) (out : List Int), (quotL l f i out).1.length ≤ out.length + 4 * f
  | 0, i, out => by rw [quotL]; simp
  | f + 1, i, out => by
    rw [quotL]
    have go : ∀ (j : Nat) (t : List Int), t.length ≤ 4 → (quotL l f j (out ++ t)).1.length ≤ out.length + 4 * (f + 1) := fun j t ht => by
      have := quotL_max l f j (out ++ t)
      rw [List.length_append] at this
      omega
    split
    · simp
    split
    · show out.length ≤ _; omega
    split
    · split
      · simp
      · exact go _ _ (by have := (nx_bd (l.drop i)).2.2.1; rw [List.length_take]; omega)
    split
    · split
      · simp
      · obtain ⟨n, hn⟩ := plain_put (atL l (i + 1))
        exact go _ _ (by rw [hn]; exact putL_len n)
    split
    · simp
    split
    · exact go _ _ (putL_len _)
    split
    · simp
    · exact go _ _ (putL_len _)
theorem quotedL_max (l : List Int) (i : Nat) : (quotedL l i).1.length ≤ 4 * (l.length + 1) := by
  unfold quotedL
  split
  · simp
  · have := quotL_max l (l.length + 1) (i + 1) []
    simpa using this
theorem quoted_small {l : List Int} (hl : l.length ≤ 100000000) (i : Nat) : (toS (quotedL l i).1).size ≤ 1000000000 := by
  rw [size_toS]
  have := quotedL_max l i
  omega
/-- What is told of a value that is read: it is right, not deeper than d, and so many values were gone through (m: of what is read already). -/
def GoodV (d : Nat) (m : Int) (r : VR) : Prop := r.2.2.2 = 0 → Rt r.1 ∧ dpJ r.1 ≤ d ∧ (szJ r.1 : Int) = m - r.2.2.1 ∧ Mild r.1
theorem GoodV.bad {d : Nat} {m : Int} {v : J} {p : Nat} {n e : Int} (he : e ≠ 0) : GoodV d m (v, p, n, e) := fun h => absurd h he
theorem leaf_good (d : Nat) (left : Int) (kind n : Int) (s : ByteArray) (p : Nat) (hs : s.size ≤ 1000000000) (hc : cleanF kind n s 0 0 = true) (h : leafR kind n s = true) : GoodV d left (.mk kind n s [] [], p, left - 1, 0) := fun _ => by
  have hk := leaf_kind h
  refine ⟨.mk kind n s [] [] hc (fun e => by omega) (.inr (.inr h)) (fun x hx => (by cases hx)), ?_, ?_, .mk kind n s [] [] hs (fun t ht => (by cases ht)) (fun x hx => (by cases hx))⟩
  · show dpJ (.mk kind n s [] []) ≤ d
    rw [dpJ, if_neg (by omega)]; exact Nat.zero_le _
  · show (szJ (.mk kind n s [] []) : Int) = left - (left - 1)
    rw [szJ, szLs]; omega
theorem tellV_good (l : List Int) (d : Nat) (left : Int) (kind n : Int) (s : ByteArray) (p : Nat × Int) (hs : s.size ≤ 1000000000) (hc : cleanF kind n s 0 0 = true) (h : p.2 = 0 → leafR kind n s = true) : GoodV d left (tellV l (left - 1) (.mk kind n s [] []) p) := by
  unfold tellV
  by_cases hp : p.2 ≠ 0
  · rw [if_pos hp]; exact .bad hp
  · rw [if_neg hp]; exact leaf_good d left kind n s _ hs hc (h (by omega))
theorem valF_good (l : List Int) (hl : l.length ≤ 100000000) (d : Nat) (many : Nat → Int → VR) (hm : ∀ i left, GoodV d (left + 1) (many i left)) (i : Nat) (left : Int) : GoodV d left (valF l many i left) := by
  unfold valF
  split
  · exact .bad (by decide)
  split
  · exact .bad (by decide)
  split
  · split
    · exact .bad (by decide)
    split
    · rename_i hf
      unfold fitL at hf
      rw [decide_eq_true_eq] at hf
      exact leaf_good d left 2 _ _ _ (by decide) (by rw [cleanF_eq]; simp) (by
        unfold leafR
        rw [if_neg (by decide), if_neg (by decide), if_pos rfl, Bool.and_eq_true, decide_eq_true_eq, decide_eq_true_eq]
        exact ⟨hf.2.2.1, hf.2.2.2⟩)
    · exact .bad (by decide)
  split
  · exact tellV_good l d left 0 0 ⟨#[]⟩ _ (by decide) (by decide) (fun _ => by decide)
  split
  · exact tellV_good l d left 1 1 ⟨#[]⟩ _ (by decide) (by decide) (fun _ => by decide)
  split
  · exact tellV_good l d left 1 0 ⟨#[]⟩ _ (by decide) (by decide) (fun _ => by decide)
  split
  · refine tellV_good l d left 3 0 _ _ (quoted_small hl i) (by rw [cleanF_eq]; simp) (fun h => ?_)
    unfold leafR
    rw [if_neg (by decide), if_neg (by decide), if_neg (by decide), if_pos rfl]
    exact (quotedL_ub l i h).toS
  · have := hm i (left - 1)
    rwa [show left - 1 + 1 = left by omega] at this
/-- What many has read till now. -/
def Had (d : Nat) (obj : Bool) (ks : List ByteArray) (vs : List J) : Prop := (∀ x ∈ vs, Rt x ∧ dpJ x ≤ d ∧ Mild x) ∧ (if obj = true then ∃ r : List (ByteArray × J), ks = r.map Prod.fst ∧ vs = r.map Prod.snd ∧ Rises r ∧ ∀ m ∈ r, utfS m.1 = true ∧ m.1.size ≤ 1000000000 else ks = [])
theorem Had.list {d : Nat} {vs : List J} {x : J} (h : Had d false [] vs) (hx : Rt x ∧ dpJ x ≤ d ∧ Mild x) : Had d false [] (vs ++ [x]) := ⟨fun y hy => by
  rcases List.mem_append.1 hy with hy | hy
  · exact h.1 y hy
  · rw [List.mem_singleton] at hy; subst hy; exact hx, by rw [if_neg (by simp)]⟩
theorem Had.obj {d : Nat} {ks : List ByteArray} {vs : List J} {t : ByteArray} {x : J} (h : Had d true ks vs) (hx : Rt x ∧ dpJ x ≤ d ∧ Mild x) (ht : utfS t = true ∧ t.size ≤ 1000000000) (hk : hasK ks t = false) :
    Had d true (putKL t x false ks vs).1 (putKL t x false ks vs).2 ∧ szLs (putKL t x false ks vs).2 = szJ x + szLs vs := by
  obtain ⟨h1, h2⟩ := h
  rw [if_pos rfl] at h2
  obtain ⟨r, rfl, rfl, hr, hu⟩ := h2
  have hne : ∀ m ∈ r, m.1 ≠ t := fun m hm e => by
    unfold hasK at hk
    rw [List.any_eq_false] at hk
    exact hk m.1 (List.mem_map_of_mem hm) (by simpa using e)
  rw [putKL_ins t x r hne]
  have hp := insM_perm t x r
  refine ⟨⟨fun y hy => ?_, ?_⟩, ?_⟩
  · obtain ⟨m, hm, rfl⟩ := List.mem_map.1 hy
    rcases List.mem_cons.1 (hp.mem_iff.1 hm) with rfl | hm
    · exact hx
    · exact h1 _ (List.mem_map_of_mem hm)
  · rw [if_pos rfl]
    refine ⟨_, rfl, rfl, insM_rises t x r hne hr, fun m hm => ?_⟩
    rcases List.mem_cons.1 (hp.mem_iff.1 hm) with rfl | hm
    · exact ht
    · exact hu m hm
  · rw [szLs_perm (hp.map Prod.snd), List.map_cons, szLs]
theorem rnL_of : ∀ (r : List (ByteArray × J)) (p : Option ByteArray), Rises r → (∀ m ∈ r, utfS m.1 = true) → (∀ q, p = some q → ∀ m ∈ r, Op.bytesLess q.toList m.1.toList = true) → rnL p (r.map Prod.fst) = true
  | [], p, _, _, _ => rnL_nil p
  | m :: r, p, hr, hu, hp => by
    unfold Rises at hr
    rw [List.pairwise_cons] at hr
    rw [List.map_cons, rnL_cons, hu m (by simp), rnL_of r (some m.1) hr.2 (fun y hy => hu y (List.mem_cons_of_mem _ hy)) (fun q hq y hy => by injection hq with hq; subst hq; exact hr.1 y hy)]
    cases p with
    | none => rfl
    | some q => simp [hp q rfl m (by simp)]
theorem manyGo_good (l : List Int) (hl : l.length ≤ 100000000) (d : Nat) (val : Nat → Int → VR) (hv : ∀ i left, GoodV d left (val i left)) (obj : Bool) : ∀ (f : Nat) (first : Bool) (i : Nat) (left : Int) (ks : List ByteArray) (vs : List J), Had d obj ks vs → GoodV (d + 1) (1 + (szLs vs : Int) + left) (manyGo l val obj f first i left ks vs)
  | 0, first, i, left, ks, vs, _ => .bad (by decide)
  | f + 1, first, i, left, ks, vs, hh => by
    have item : ∀ (a : Nat) (t : ByteArray), (obj = true → (utfS t = true ∧ t.size ≤ 1000000000) ∧ hasK ks t = false) → GoodV (d + 1) (1 + (szLs vs : Int) + left) (itemL l val obj (manyGo l val obj f false) a left t ks vs) := fun a t ht => by
      unfold itemL
      by_cases he : (val a left).2.2.2 ≠ 0
      · rw [if_pos he]; exact .bad he
      · rw [if_neg he]
        obtain ⟨h1, h2, h3, h4⟩ := hv a left (by omega)
        by_cases hc : atL l (val a left).2.1 ≠ 44 ∧ atL l (val a left).2.1 ≠ (if obj = true then 125 else 93)
        · rw [if_pos hc]; exact .bad (by decide)
        · rw [if_neg hc]
          cases obj
          · have hks : ks = [] := by have := hh.2; rwa [if_neg (by simp)] at this
            subst hks
            have := manyGo_good l hl d val hv false f false (val a left).2.1 (val a left).2.2.1 [] (vs ++ [(val a left).1]) (hh.list ⟨h1, h2, h4⟩)
            rw [szLs_app, szLs, szLs] at this
            rw [if_neg (by simp)]
            rwa [show 1 + ((szLs vs + (szJ (val a left).1 + 0) : Nat) : Int) + (val a left).2.2.1 = 1 + (szLs vs : Int) + left by omega] at this
          · obtain ⟨t1, t2⟩ := ht rfl
            obtain ⟨q1, q2⟩ := hh.obj ⟨h1, h2, h4⟩ t1 t2
            have := manyGo_good l hl d val hv true f false (val a left).2.1 (val a left).2.2.1 _ _ q1
            rw [q2] at this
            rw [if_pos rfl]
            rwa [show 1 + ((szJ (val a left).1 + szLs vs : Nat) : Int) + (val a left).2.2.1 = 1 + (szLs vs : Int) + left by omega] at this
    have memb : ∀ (a : Nat), GoodV (d + 1) (1 + (szLs vs : Int) + left) (membL l val obj (manyGo l val obj f false) a left ks vs) := fun a => by
      unfold membL
      split
      · split
        · rename_i he; exact .bad he
        · rename_i he
          have hub := quotedL_ub l a (by omega)
          split
          · exact .bad (by decide)
          · rename_i hk
            split
            · exact .bad (by decide)
            · exact item _ _ (fun _ => ⟨⟨hub.toS, quoted_small hl a⟩, by simpa using hk⟩)
      · rename_i ho
        exact item _ _ (fun h => absurd h ho)
    rw [manyGo]
    by_cases he : atL l i = (if obj = true then 125 else 93)
    · rw [if_pos he]
      intro _
      obtain ⟨g1, g2⟩ := hh
      have hdp : dpLs vs ≤ d := (dpLs_le vs).2 fun x hx => (g1 x hx).2.1
      cases obj
      · rw [if_neg (by simp)] at g2
        subst g2
        refine ⟨.mk 4 0 ⟨#[]⟩ vs [] (by rw [cleanF_eq]; simp) (fun h => absurd h (by decide)) (.inl rfl) (fun x hx => (g1 x hx).1), ?_, ?_, .mk _ _ _ _ _ (by decide) (fun t ht => (by cases ht)) (fun x hx => (g1 x hx).2.2)⟩
        · show dpJ (.mk 4 0 ⟨#[]⟩ vs []) ≤ d + 1
          rw [dpJ, if_pos (.inl rfl)]; omega
        · show (szJ (.mk 4 0 ⟨#[]⟩ vs []) : Int) = 1 + (szLs vs : Int) + left - left
          rw [szJ]; omega
      · rw [if_pos rfl] at g2
        obtain ⟨r, rfl, rfl, hr, hu⟩ := g2
        refine ⟨.mk 5 0 ⟨#[]⟩ _ _ (by rw [cleanF_eq]; simp) (fun _ => ⟨by simp, rnL_of r none hr (fun m hm => (hu m hm).1) (fun q hq => by cases hq)⟩) (.inr (.inl rfl)) (fun x hx => (g1 x hx).1), ?_, ?_, .mk _ _ _ _ _ (by decide) (fun t ht => (by obtain ⟨m, hm, rfl⟩ := List.mem_map.1 ht; exact (hu m hm).2)) (fun x hx => (g1 x hx).2.2)⟩
        · show dpJ (.mk 5 0 ⟨#[]⟩ _ _) ≤ d + 1
          rw [dpJ, if_pos (.inr rfl)]; omega
        · show (szJ (.mk 5 0 ⟨#[]⟩ (r.map Prod.snd) (r.map Prod.fst)) : Int) = 1 + (szLs (r.map Prod.snd) : Int) + left - left
          rw [szJ]; omega
    · rw [if_neg he]
      split
      · exact memb _
      · split
        · exact .bad (by decide)
        · exact memb _
theorem valueL_good (l : List Int) (hl : l.length ≤ 100000000) : ∀ (d i : Nat) (left : Int), GoodV d left (valueL l d i left)
  | 0, i, left => by rw [valueL]; exact valF_good l hl 0 _ (fun i left => .bad (by decide)) i left
  | d + 1, i, left => by
    rw [valueL]
    refine valF_good l hl (d + 1) _ (fun i left => ?_) i left
    unfold manyL
    have := manyGo_good l hl d (valueL l d) (fun i left => valueL_good l hl d i left) (decide (atL l i = 123)) (l.length + 1) true (skipL l (i + 1)) left [] [] ⟨fun x hx => (by cases hx), by split <;> first | exact ⟨[], rfl, rfl, List.Pairwise.nil, fun m hm => (by cases hm)⟩ | rfl⟩
    rw [szLs] at this
    rwa [show 1 + ((0 : Nat) : Int) + left = left + 1 by omega] at this
/-- What is read is right. -/
theorem parsed_right (l : List Int) (h : (parsedL l).2.1 = 0) : (rgt (parsedL l).1 1 256).1 = true ∧ Mild (parsedL l).1 := by
  rw [parsedL_is] at h ⊢
  unfold parseL at h ⊢
  by_cases h1 : 4096 < l.length
  · rw [if_pos h1] at h; exact absurd (show (2 : Int) = 0 from h) (by decide)
  rw [if_neg h1] at h ⊢
  by_cases h2 : (valueL l 8 (skipL l 0) 256).2.2.2 ≠ 0
  · rw [if_pos h2] at h; exact absurd h h2
  rw [if_neg h2] at h ⊢
  by_cases h3 : (valueL l 8 (skipL l 0) 256).2.1 < l.length
  · rw [if_pos h3] at h; exact absurd (show (50 : Int) = 0 from h) (by decide)
  rw [if_neg h3]
  obtain ⟨a, b, c, m⟩ := valueL_good l (by omega) 8 (skipL l 0) 256 (by omega)
  obtain ⟨_, _, m3, _⟩ := valueL_moves l 8 (skipL l 0) 256 (skipL_ge (Nat.zero_le _)).2 (by omega)
  show (rgt (valueL l 8 (skipL l 0) 256).1 1 256).1 = true ∧ Mild (valueL l 8 (skipL l 0) 256).1
  exact ⟨(right_iff _).2 ⟨a, by omega, b⟩, m⟩
/-- A right value's text is read as it. -/
theorem parsed_text (j : J) (h : (rgt j 1 256).1 = true) (hl : (textL j).length ≤ 4096) : parsedL (textL j) = (j, 0, -1) := by
  obtain ⟨h1, h2, h3⟩ := (right_iff j).1 h
  have ha : At (textL j) 0 (textL j) := by unfold At; rw [List.drop_zero, Nat.zero_add, List.drop_length, List.append_nil]
  have hsk : skipL (textL j) 0 = 0 := skip_at rfl (begins_facts (text_at h1 ha)).1
  have hend : atL (textL j) (textL j).length = -1 := by unfold atL; rw [List.getD_eq_getElem?_getD, List.getElem?_eq_none (Nat.le_refl _)]; rfl
  have hv := (value_back j h1 (textL j) 8 0 256 (by decide) ha (noD_of (by rw [Nat.zero_add, hend]; omega))).1 ⟨by omega, h3⟩
  rw [Nat.zero_add, skip_at hend (by decide)] at hv
  rw [parsedL_is]
  unfold parseL
  rw [if_neg (by omega), hsk, hv, if_neg (by simp), if_neg (by simp)]
end Go.Proofs.YtblheibknpphkaaGreatDoor
