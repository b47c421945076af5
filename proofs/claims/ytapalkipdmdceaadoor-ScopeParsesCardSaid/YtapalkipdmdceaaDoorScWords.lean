/- The mathematics of scopes' texts: the words between blanks; what Parse tells; what Print tells. -/
import Derived.Test.YtapalkipdmdceaaDoorScSmall
import Derived.Lib.IndexMore
namespace Go.Proofs.YtapalkipdmdceaaDoor
open Go Go.RowKit

/-- The words between the blanks. -/
def wordsU : List UInt8 → List (List UInt8)
  | [] => [[]]
  | c :: r => if c = 32 then [] :: wordsU r else
    match wordsU r with
    | p :: ps => (c :: p) :: ps
    | [] => [[c]]
theorem wordsU_hit : ∀ (a b : List UInt8), 32 ∉ a → wordsU (a ++ 32 :: b) = a :: wordsU b
  | [], b, _ => by simp [wordsU]
  | c :: r, b, h => by
    have hc : ¬ c = 32 := fun e => h (by simp [e])
    have ih := wordsU_hit r b (fun k => h (List.mem_cons_of_mem _ k))
    rw [List.cons_append, wordsU, if_neg hc, ih]
theorem wordsU_miss : ∀ (a : List UInt8), 32 ∉ a → wordsU a = [a]
  | [], _ => rfl
  | c :: r, h => by
    have hc : ¬ c = 32 := fun e => h (by simp [e])
    rw [wordsU, if_neg hc, wordsU_miss r (fun k => h (List.mem_cons_of_mem _ k))]
theorem indexB_spec (c : UInt8) : ∀ l : List UInt8, (Lib.indexByte l c = -1 ∧ c ∉ l) ∨ ∃ a b, l = a ++ c :: b ∧ c ∉ a ∧ Lib.indexByte l c = a.length
  | [] => .inl ⟨rfl, by simp⟩
  | b :: l => by
    unfold Lib.indexByte
    by_cases h : b = c
    · subst h
      exact .inr ⟨[], l, rfl, by simp, by simp⟩
    · have hb : (b == c) = false := beq_eq_false_iff_ne.2 h
      have h' : ¬ c = b := fun e => h e.symm
      rcases indexB_spec c l with ⟨h1, h2⟩ | ⟨a, b', h1, h2, h3⟩
      · exact .inl ⟨by rw [hb, h1]; rfl, by simp [h', h2]⟩
      · refine .inr ⟨b :: a, b', by rw [h1]; rfl, by simp [h', h2], ?_⟩
        have hn : ((a.length : Int) == -1) = false := by rw [beq_eq_false_iff_ne]; omega
        rw [hb, h3]
        simp [hn]
/-- A text's words. -/
def wordsB (s : ByteArray) : List ByteArray := (wordsU (nmL s)).map ofL
/-- Cut at the first blank. -/
theorem cut_words (s : ByteArray) : ((Lib.cut (nmL s) [32]).2.2 = true ∧ wordsB s = ofL (Lib.cut (nmL s) [32]).1 :: wordsB (ofL (Lib.cut (nmL s) [32]).2.1) ∧ (Lib.cut (nmL s) [32]).2.1.length < s.size ∧ (Lib.cut (nmL s) [32]).1.length ≤ s.size) ∨ ((Lib.cut (nmL s) [32]).2.2 = false ∧ wordsB s = [ofL (Lib.cut (nmL s) [32]).1] ∧ (Lib.cut (nmL s) [32]).1.length ≤ s.size ∧ (Lib.cut (nmL s) [32]).2.1.length ≤ s.size) := by
  have hsz : s.size = (nmL s).length := by unfold nmL; rw [Array.length_toList]; rfl
  rcases indexB_spec 32 (nmL s) with ⟨h1, h2⟩ | ⟨a, b, h1, h2, h3⟩
  · have hi : Lib.index (nmL s) [32] = -1 := (Lib.index_one _ _).trans h1
    refine .inr ?_
    unfold Lib.cut
    rw [hi, if_neg (by decide)]
    refine ⟨rfl, ?_, by rw [hsz]; exact Nat.le_refl _, by simp⟩
    unfold wordsB
    rw [wordsU_miss _ h2]; rfl
  · have hi : Lib.index (nmL s) [32] = (a.length : Int) := (Lib.index_one _ _).trans h3
    have hd : (nmL s).drop (a.length + 1) = b := by rw [h1, List.drop_append]; simp
    have ht : (nmL s).take a.length = a := by rw [h1, List.take_left]
    refine .inl ?_
    unfold Lib.cut
    rw [hi, if_pos (by omega)]
    simp only [Int.toNat_natCast, List.length_singleton, ht, hd]
    refine ⟨trivial, ?_, by rw [hsz, h1]; simp; omega, by rw [hsz, h1]; simp⟩
    unfold wordsB
    rw [h1, wordsU_hit _ _ h2, nmL_ofL]; rfl
/-- Are words names, few unlike ones? -/
def okW (ws : List ByteArray) : Bool := ws.all (fun x => nameB (strL x)) && decide ((setS ws).length ≤ 16)
/-- The words of a text that Parse looks at: of none there are none. -/
def textW (s : ByteArray) : List ByteArray := if s.size = 0 then [] else wordsB s
theorem okW_bad {ws : List ByteArray} {x : ByteArray} (h : x ∈ ws) (hx : nameB (strL x) = false) : okW ws = false := by
  unfold okW
  rw [show ws.all (fun x => nameB (strL x)) = false by rw [List.all_eq_false]; exact ⟨x, h, by rw [hx]; simp⟩, Bool.false_and]
theorem okW_many {a b : List ByteArray} (h : 16 < (setS a).length) : okW (a ++ b) = false := by
  have := setS_mono a b
  unfold okW
  rw [decide_eq_false (by omega), Bool.and_false]
theorem okW_good {ws : List ByteArray} (h : ∀ x ∈ ws, nameB (strL x) = true) (hl : (setS ws).length ≤ 16) : okW ws = true := by
  unfold okW
  rw [decide_eq_true hl, Bool.and_true, List.all_eq_true]; exact h
/-- What Parse tells. -/
def parseN (s : ByteArray) : List ByteArray := if okW (textW s) = true then setS (textW s) else []
theorem name_size {x : ByteArray} (h : nameB (strL x) = true) : x.size ≤ 32 := by
  have := (nameB_len h).2
  rwa [length_strL] at this
/-- The text of names: a blank ahead of each but the first. -/
def textG : Bool → List ByteArray → List Int
  | _, [] => []
  | f, x :: r => (if f then [] else [32]) ++ strL x ++ textG false r
theorem textG_bytes : ∀ (l : List ByteArray) (f : Bool), Bytes (textG f l)
  | [], _ => .of_mem (by simp [textG])
  | x :: r, f => by
    simp only [textG]
    refine ((Bytes.append ?_ (strL_bd x)).append (textG_bytes r false))
    cases f <;> exact .of_mem (by simp)
theorem textG_append : ∀ (a b : List ByteArray) (f : Bool), textG f (a ++ b) = textG f a ++ textG (f && a.isEmpty) b
  | [], b, f => by simp [textG]
  | x :: r, b, f => by
    simp only [List.cons_append, textG, textG_append r b false, Bool.false_and, List.isEmpty_cons, Bool.and_false, List.append_assoc]
theorem textG_snoc {l : List ByteArray} {k : Nat} (h : k < l.length) : textG true (l.take (k + 1)) = (textG true (l.take k) ++ (if k = 0 then [] else [32])) ++ strL l[k] := by
  rw [List.take_succ_eq_append_getElem h, textG_append]
  cases k with
  | zero => simp [textG]
  | succ j =>
    have : (l.take (j + 1)).isEmpty = false := by
      rw [List.isEmpty_eq_false_iff]
      intro e
      have := congrArg List.length e
      rw [List.length_take, List.length_nil] at this; omega
    rw [this]
    simp [textG]
theorem textG_len : ∀ (l : List ByteArray) (f : Bool) (c : Nat), (∀ x ∈ l, x.size ≤ c) → (textG f l).length ≤ l.length * (c + 1)
  | [], _, _, _ => by simp [textG]
  | x :: r, f, c, h => by
    have ih := textG_len r false c (fun y hy => h y (List.mem_cons_of_mem _ hy))
    have hx := h x List.mem_cons_self
    simp only [textG, List.length_append, length_strL, List.length_cons, Nat.add_mul, Nat.one_mul]
    have : (if f then ([] : List Int) else [32]).length ≤ 1 := by cases f <;> simp
    omega
theorem textG_take_len (l : List ByteArray) (k : Nat) : (textG true (l.take k)).length ≤ (textG true l).length := by
  have : textG true l = textG true (l.take k) ++ textG (true && (l.take k).isEmpty) (l.drop k) := by rw [← textG_append, List.take_append_drop]
  rw [this, List.length_append]; omega
/-- A text made of names that rise is read as them. -/
theorem wordsU_names : ∀ (l : List ByteArray), l ≠ [] → (∀ x ∈ l, (32 : UInt8) ∉ nmL x) → ∀ t, nmL t = (match l with | [] => [] | x :: r => nmL x ++ r.flatMap (fun y => 32 :: nmL y)) → wordsB t = l
  | [], h, _, _, _ => absurd rfl h
  | [x], _, hb, t, ht => by
    simp at ht
    unfold wordsB
    rw [ht, wordsU_miss _ (hb x (by simp))]
    simp [ofL_nmL]
  | x :: y :: r, _, hb, t, ht => by
    have ih := wordsU_names (y :: r) (by simp) (fun z hz => hb z (List.mem_cons_of_mem _ hz)) (ofL (nmL y ++ r.flatMap (fun y => 32 :: nmL y))) (by rw [nmL_ofL])
    unfold wordsB at ih ⊢
    rw [nmL_ofL] at ih
    have e : nmL t = nmL x ++ 32 :: (nmL y ++ r.flatMap (fun y => 32 :: nmL y)) := by rw [ht]; simp
    rw [e, wordsU_hit _ _ (hb x (by simp)), List.map_cons, ih, ofL_nmL]
end Go.Proofs.YtapalkipdmdceaaDoor
