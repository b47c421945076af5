/- The mathematics of urlenc, on: parts, names and values, parameters; what Parse and Print tell. -/
import Derived.Test.YtcjnhgcopdofhaaDoorUrMath
import Derived.Test.YtcjnhgcopdofhaaDoorUtfMath
import Derived.Test.YtcjnhgcopdofhaaDoorKit4
import Derived.Lib.Split
import Derived.Lib.Join
namespace Go.Proofs.YtcjnhgcopdofhaaDoor
open Go Go.RowKit

/-- The parts between the signs 38. -/
def partsL : List Int → List (List Int)
  | [] => [[]]
  | c :: r => if c = 38 then [] :: partsL r else
    match partsL r with
    | p :: ps => (c :: p) :: ps
    | [] => [[c]]
theorem partsL_ne : ∀ l : List Int, partsL l ≠ []
  | [] => by simp [partsL]
  | c :: r => by
    unfold partsL
    split
    · simp
    · split <;> simp
theorem partsL_hit : ∀ (a b : List Int), 38 ∉ a → partsL (a ++ 38 :: b) = a :: partsL b
  | [], b, _ => by simp [partsL]
  | c :: r, b, h => by
    have hc : ¬ c = 38 := fun e => h (by simp [e])
    have ih := partsL_hit r b (fun k => h (List.mem_cons_of_mem _ k))
    rw [List.cons_append, partsL, if_neg hc, ih]
theorem partsL_miss : ∀ (a : List Int), 38 ∉ a → partsL a = [a]
  | [], _ => rfl
  | c :: r, h => by
    have hc : ¬ c = 38 := fun e => h (by simp [e])
    rw [partsL, if_neg hc, partsL_miss r (fun k => h (List.mem_cons_of_mem _ k))]

/-! ### Go's Split, Cut, Join -/
theorem indexByte_spec (c : UInt8) : ∀ l : List UInt8, (Lib.indexByte l c = -1 ∧ c ∉ l) ∨ ∃ a b, l = a ++ c :: b ∧ c ∉ a ∧ Lib.indexByte l c = a.length
  | [] => .inl ⟨rfl, by simp⟩
  | b :: l => by
    unfold Lib.indexByte
    by_cases h : b = c
    · subst h
      exact .inr ⟨[], l, rfl, by simp, by simp⟩
    · have hb : (b == c) = false := beq_eq_false_iff_ne.2 h
      have h' : ¬ c = b := fun e => h e.symm
      rcases indexByte_spec c l with ⟨h1, h2⟩ | ⟨a, b', h1, h2, h3⟩
      · exact .inl ⟨by rw [hb, h1]; rfl, by simp [h', h2]⟩
      · refine .inr ⟨b :: a, b', by rw [h1]; rfl, by simp [h', h2], ?_⟩
        have hn : ((a.length : Int) == -1) = false := by rw [beq_eq_false_iff_ne]; omega
        rw [hb, h3]
        simp [hn]
def nU (b : UInt8) : Int := (b.toNat : Int)
theorem nU_inj {a b : UInt8} (h : nU a = nU b) : a = b := UInt8.toNat_inj.1 (by unfold nU at h; omega)
theorem not_mem_nU {c : UInt8} {l : List UInt8} (h : c ∉ l) : nU c ∉ l.map nU := fun k => by
  obtain ⟨x, hx, e⟩ := List.mem_map.1 k
  exact h (nU_inj e ▸ hx)
theorem strL_nU (s : ByteArray) : strL s = s.data.toList.map nU := rfl
theorem splitK_parts : ∀ (n : Nat) (l : List UInt8), l.length ≤ n → (Lib.splitK [38] 0 (Lib.count l [38]) l).map (·.map nU) = partsL (l.map nU)
  | n, l, hn => by
    rcases indexByte_spec 38 l with ⟨h1, h2⟩ | ⟨a, b, h1, h2, h3⟩
    · have hi : Lib.index l [38] = -1 := (Lib.index_one _ _).trans h1
      rw [Lib.count_miss hi]
      have := not_mem_nU h2
      rw [show nU 38 = 38 from rfl] at this
      rw [partsL_miss _ this]; rfl
    · have hi : Lib.index l [38] = (a.length : Int) := (Lib.index_one _ _).trans h3
      have hd : l.drop (a.length + 1) = b := by rw [h1, List.drop_append]; simp
      have ht : l.take a.length = a := by rw [h1, List.take_left]
      rw [Lib.count_hit (by simp) hi, Nat.add_comm, Lib.splitK]
      have hne : ¬ (Lib.index l [38] == -1) = true := by rw [hi, beq_iff_eq]; omega
      rw [if_neg hne, hi]
      simp only [Int.toNat_natCast, Nat.add_zero, List.length_singleton, ht, hd, List.map_cons]
      have hlen : l.length = a.length + (b.length + 1) := by rw [h1]; simp
      match n, hn with
      | 0, hn => omega
      | n + 1, hn =>
        rw [splitK_parts n b (by omega), h1, List.map_append, List.map_cons]
        have := not_mem_nU h2
        rw [show nU 38 = 38 from rfl] at this
        rw [show nU 38 = 38 from rfl, partsL_hit _ _ this]
theorem split_parts (s sep : ByteArray) (hs : sep.data.toList = [38]) : (Lib.splitB sep 0 (Lib.countB s sep) s).map strL = partsL (strL s) := by
  have h := Lib.splitB_data sep 0 (Lib.countB s sep) s
  rw [hs] at h
  have hc : Lib.countB s sep = Lib.count s.data.toList [38] := by rw [← hs]
  rw [hc] at h
  have h2 := splitK_parts _ s.data.toList (Nat.le_refl _)
  rw [← h, List.map_map] at h2
  rw [hc]
  exact h2
/-- A part's name and value. -/
def nameL (p : List Int) : List Int := p.takeWhile (fun c => c != 61)
def valL (p : List Int) : List Int := (p.dropWhile (fun c => c != 61)).drop 1
theorem nameL_hit (a b : List Int) (h : 61 ∉ a) : nameL (a ++ 61 :: b) = a ∧ valL (a ++ 61 :: b) = b := by
  induction a with
  | nil => simp [nameL, valL]
  | cons c r ih =>
    have hc : ¬ c = 61 := fun e => h (by simp [e])
    obtain ⟨h1, h2⟩ := ih (fun k => h (List.mem_cons_of_mem _ k))
    unfold nameL valL at *
    simp [List.takeWhile_cons, List.dropWhile_cons, hc] at h1 h2 ⊢
    exact ⟨h1, h2⟩
theorem nameL_miss (a : List Int) (h : 61 ∉ a) : nameL a = a ∧ valL a = [] := by
  induction a with
  | nil => simp [nameL, valL]
  | cons c r ih =>
    have hc : ¬ c = 61 := fun e => h (by simp [e])
    obtain ⟨h1, h2⟩ := ih (fun k => h (List.mem_cons_of_mem _ k))
    unfold nameL valL at *
    simp [List.takeWhile_cons, List.dropWhile_cons, hc] at h1 h2 ⊢
    exact ⟨h1, h2⟩
theorem cut_name (l : List UInt8) : (Lib.cut l [61]).1.map nU = nameL (l.map nU) ∧ (Lib.cut l [61]).2.1.map nU = valL (l.map nU) := by
  rcases indexByte_spec 61 l with ⟨h1, h2⟩ | ⟨a, b, h1, h2, h3⟩
  · have hi : Lib.index l [61] = -1 := (Lib.index_one _ _).trans h1
    have := not_mem_nU h2
    rw [show nU 61 = 61 from rfl] at this
    obtain ⟨k1, k2⟩ := nameL_miss _ this
    unfold Lib.cut
    rw [hi, if_neg (by decide)]
    exact ⟨k1.symm, k2.symm⟩
  · have hi : Lib.index l [61] = (a.length : Int) := (Lib.index_one _ _).trans h3
    have hd : l.drop (a.length + 1) = b := by rw [h1, List.drop_append]; simp
    have ht : l.take a.length = a := by rw [h1, List.take_left]
    have := not_mem_nU h2
    rw [show nU 61 = 61 from rfl] at this
    obtain ⟨k1, k2⟩ := nameL_hit (a.map nU) (b.map nU) this
    unfold Lib.cut
    rw [hi, if_pos (by omega)]
    simp only [Int.toNat_natCast, List.length_singleton, ht, hd]
    rw [h1, List.map_append, List.map_cons, show nU 61 = 61 from rfl]
    exact ⟨k1.symm, k2.symm⟩
theorem nameL_mem {p : List Int} {x : Int} (h : x ∈ nameL p) : x ∈ p := (List.takeWhile_prefix _).subset h
theorem valL_mem {p : List Int} {x : Int} (h : x ∈ valL p) : x ∈ p := List.dropWhile_subset _ (List.mem_of_mem_drop h)
theorem nameL_len (p : List Int) : (nameL p).length ≤ p.length := (List.takeWhile_prefix _).length_le
theorem valL_len (p : List Int) : (valL p).length ≤ p.length := by
  unfold valL
  have := (List.dropWhile_sublist (l := p) (fun c => c != 61)).length_le
  simp only [List.length_drop]; omega
theorem first61 : ∀ p : List Int, 61 ∈ p → ∃ a b, p = a ++ 61 :: b ∧ 61 ∉ a
  | [], h => by simp at h
  | c :: r, h => by
    by_cases hc : c = 61
    · exact ⟨[], r, by rw [hc]; rfl, by simp⟩
    · have hr : 61 ∈ r := by
        rcases List.mem_cons.1 h with e | e
        · exact absurd e.symm hc
        · exact e
      obtain ⟨a, b, e, hn⟩ := first61 r hr
      refine ⟨c :: a, b, by rw [e]; rfl, fun k => ?_⟩
      rcases List.mem_cons.1 k with e | e
      · exact hc e.symm
      · exact hn e
/-- A part is its name, or its name, a sign 61 and its value. -/
theorem part_forms (p : List Int) : (61 ∉ p ∧ nameL p = p ∧ valL p = []) ∨ (p = nameL p ++ 61 :: valL p ∧ 61 ∉ nameL p) := by
  by_cases h : 61 ∈ p
  · obtain ⟨a, b, rfl, hn⟩ := first61 p h
    obtain ⟨h1, h2⟩ := nameL_hit a b hn
    rw [h1, h2]
    exact .inr ⟨rfl, hn⟩
  · exact .inl ⟨h, nameL_miss p h⟩
/-- Where a name's text and a value's stand behind one another. -/
theorem loose_name : ∀ (n : Nat) (a b : List Int), a.length ≤ n → 61 ∉ a → looseL (a ++ 61 :: b) = if looseL a < a.length then looseL a else a.length + 1 + looseL b
  | _, [], b, _, _ => by
    rw [List.nil_append, looseL_one _ (by decide)]
    simp [looseL]; omega
  | n + 1, c :: r, b, hn, h => by
    have hr : 61 ∉ r := fun k => h (List.mem_cons_of_mem _ k)
    simp only [List.length_cons] at hn
    by_cases hc : c = 37
    · subst hc
      have hsp : spelt (37 :: (r ++ 61 :: b)) = spelt (37 :: r) := by
        match r with
        | [] => cases b <;> simp [spelt, hexW_no61]
        | [x] => simp [spelt, hexW_no61]
        | x :: y :: r' => rfl
      cases hs : spelt (37 :: r) with
      | false =>
        rw [hs] at hsp
        rw [List.cons_append, looseL_bad hsp, looseL_bad hs, if_pos (by simp)]
      | true =>
        obtain ⟨x, y, r', e, h1, h2⟩ := spelt_cons hs
        injection e with _ e
        subst e
        have ih := loose_name n r' b (by simp at hn; omega) (fun k => hr (by simp [k]))
        rw [List.cons_append, List.cons_append, List.cons_append, looseL_byte _ h1 h2, looseL_byte _ h1 h2, ih]
        simp only [List.length_cons]
        split
        · rw [if_pos (by omega)]
        · rw [if_neg (by omega)]; omega
    · have ih := loose_name n r b (by omega) hr
      rw [List.cons_append, looseL_one _ hc, looseL_one _ hc, ih]
      simp only [List.length_cons]
      split
      · rw [if_pos (by omega)]
      · rw [if_neg (by omega)]; omega
  | 0, c :: r, b, hn, h => by simp at hn

/-! ### Parameters -/
abbrev PList := List (ByteArray × ByteArray)
def getB : PList → ByteArray → ByteArray × Bool
  | [], _ => (⟨#[]⟩, false)
  | p :: r, n => if p.1 = n then (p.2, true) else getB r n
theorem getB_snoc (l : PList) (p : ByteArray × ByteArray) (n : ByteArray) (h : (getB l n).2 = false) : getB (l ++ [p]) n = if p.1 = n then (p.2, true) else (⟨#[]⟩, false) := by
  induction l with
  | nil => rfl
  | cons q r ih =>
    rw [List.cons_append, getB]
    rw [getB] at h
    split
    · rename_i e; rw [if_pos e] at h; simp at h
    · rename_i e; rw [if_neg e] at h; exact ih h
theorem getB_none {l : PList} {n : ByteArray} : (getB l n).2 = false ↔ ∀ p ∈ l, p.1 ≠ n := by
  induction l with
  | nil => simp [getB]
  | cons q r ih =>
    rw [getB]
    split
    · rename_i e; simp [e]
    · rename_i e; rw [ih]; simp [e]
/-- A right parameter. -/
def rightP (p : ByteArray × ByteArray) : Bool := decide (p.1 ≠ ⟨#[]⟩ ∧ badU (strL p.1) = (strL p.1).length ∧ badU (strL p.2) = (strL p.2).length)
/-- What Parse tells: the parameters, the error's number, its place. -/
def goP : List (List Int) → Nat → PList → PList × Int × Int
  | [], _, acc => (acc, 0, -1)
  | p :: ps, k, acc =>
    if p = [] then goP ps (k + 1) acc else
    if looseL p < p.length then ([], 60, ((k + looseL p : Nat) : Int)) else
    if rightP (toS (meanL (nameL p)), toS (meanL (valL p))) = false then ([], 60, (k : Int)) else
    if (getB acc (toS (meanL (nameL p)))).2 = true then ([], 52, (k : Int)) else
    if acc.length = 32 then ([], 53, -1) else goP ps (k + (p.length + 1)) (acc ++ [(toS (meanL (nameL p)), toS (meanL (valL p)))])
def parsedP (s : ByteArray) : PList × Int × Int := if 4096 < s.size then ([], 2, -1) else goP (partsL (strL s)) 0 []
end Go.Proofs.YtcjnhgcopdofhaaDoor
