/- The mathematics of urlenc's Print: the text of parameters; it comes back. -/
import Derived.Test.YtcjnhgcopdofhaaDoorUrParts
namespace Go.Proofs.YtcjnhgcopdofhaaDoor
open Go Go.RowKit

def paramT (p : ByteArray × ByteArray) : List Int := escL (strL p.1) ++ 61 :: escL (strL p.2)
def textP : PList → List Int
  | [] => []
  | [p] => paramT p
  | p :: q :: r => paramT p ++ 38 :: textP (q :: r)
theorem paramT_bytes (p : ByteArray × ByteArray) : Bytes (paramT p) := (escL_bytes (strL_bd _)).append (.of_mem fun x hx => by
  rcases List.mem_cons.1 hx with rfl | hx
  · omega
  · exact (escL_bytes (strL_bd _)).mem hx)
theorem textP_cons (p : ByteArray × ByteArray) (r : PList) : textP (p :: r) = if r = [] then paramT p else paramT p ++ 38 :: textP r := by
  cases r <;> simp [textP]
theorem textP_snoc : ∀ (ps : PList) (p : ByteArray × ByteArray), textP (ps ++ [p]) = if ps = [] then paramT p else textP ps ++ 38 :: paramT p
  | [], p => by simp [textP]
  | [q], p => by simp [textP]
  | q :: q2 :: r, p => by
    have ih := textP_snoc (q2 :: r) p
    rw [if_neg (by simp)] at ih ⊢
    rw [List.cons_append, textP_cons, if_neg (by simp), ih, textP_cons q, if_neg (by simp)]
    simp
theorem textP_bytes : ∀ ps : PList, Bytes (textP ps)
  | [] => .of_mem (by simp [textP])
  | p :: r => by
    rw [textP_cons]
    split
    · exact paramT_bytes p
    · exact (paramT_bytes p).append (.of_mem fun x hx => by
        rcases List.mem_cons.1 hx with rfl | hx
        · omega
        · exact (textP_bytes r).mem hx)
theorem paramT_len (p : ByteArray × ByteArray) (h1 : p.1.size ≤ 3000) (h2 : p.2.size ≤ 3000) : (paramT p).length ≤ 18001 := by
  have e1 := escL_len (strL p.1)
  have e2 := escL_len (strL p.2)
  rw [length_strL] at e1 e2
  simp only [paramT, List.length_append, List.length_cons]
  omega
def smallP (ps : PList) : Prop := ∀ p ∈ ps, p.1.size ≤ 3000 ∧ p.2.size ≤ 3000
theorem textP_len : ∀ ps : PList, smallP ps → (textP ps).length ≤ 18002 * ps.length
  | [], _ => by simp [textP]
  | p :: r, h => by
    have h1 := h p (by simp)
    have h2 := paramT_len p h1.1 h1.2
    have h3 := textP_len r fun q hq => h q (List.mem_cons_of_mem _ hq)
    rw [textP_cons]
    split
    · simp; omega
    · simp; omega
/-- The program's join of texts. -/
theorem join_text (xs : List ByteArray) (ps : PList) (h : xs = ps.map fun p => toS (paramT p)) : (⟨(Lib.join (xs.map (·.data.toList)) [38]).toArray⟩ : ByteArray) = toS (textP ps) := by
  apply strL_inj
  rw [strL_toS (textP_bytes ps), strL_nU, h]
  have key : ∀ ps : PList, (Lib.join ((ps.map fun p => toS (paramT p)).map (·.data.toList)) [38]).map nU = textP ps := by
    intro ps
    induction ps with
    | nil => rfl
    | cons p r ih =>
      have e1 : (toS (paramT p)).data.toList.map nU = paramT p := strL_toS (paramT_bytes p)
      cases r with
      | nil =>
        simp only [List.map_cons, List.map_nil, Lib.join_one]
        exact e1
      | cons q r =>
        rw [textP, ← ih, ← e1]
        simp only [Lib.join, List.map_cons, List.intercalate, List.intersperse_cons_cons, List.flatten_cons, List.map_append, List.map_nil]
        rfl
  exact key ps
/-- Which lists are printed. -/
def okP : PList → PList → Bool
  | _, [] => true
  | pre, p :: r => !(getB pre p.1).2 && rightP p && okP (pre ++ [p]) r
def printedP (ps : PList) : List Int × Int :=
  if 32 < ps.length then ([], 1) else if okP [] ps = false then ([], 1) else if 4096 < (textP ps).length then ([], 2) else (textP ps, 0)
/-! ### Parse of Print -/
theorem paramT_parts (p : ByteArray × ByteArray) : 38 ∉ paramT p := fun h => by
  unfold paramT at h
  rcases List.mem_append.1 h with h | h
  · exact (escL_signs (strL_bd _) _ h).1 rfl
  · rcases List.mem_cons.1 h with h | h
    · cases h
    · exact (escL_signs (strL_bd _) _ h).1 rfl
theorem parts_text : ∀ ps : PList, ps ≠ [] → partsL (textP ps) = ps.map paramT
  | [], h => absurd rfl h
  | [p], _ => partsL_miss _ (paramT_parts p)
  | p :: q :: r, _ => by
    rw [textP, partsL_hit _ _ (paramT_parts p), parts_text (q :: r) (by simp)]; rfl
theorem loose_mid : ∀ (l r : List Int), Bytes l → looseL r = r.length → looseL (escL l ++ r) = (escL l ++ r).length
  | [], r, _, h => h
  | c :: t, r, hb, h => by
    rw [escL, List.append_assoc]
    exact (spellB_back (hb.mem (by simp)) (escL t ++ r)).2 (loose_mid t r hb.tail h)
theorem paramT_loose (p : ByteArray × ByteArray) : looseL (paramT p) = (paramT p).length :=
  loose_mid _ _ (strL_bd _) (by rw [looseL_one _ (by decide), (escL_back (strL_bd _)).2]; rfl)
theorem paramT_name (p : ByteArray × ByteArray) : nameL (paramT p) = escL (strL p.1) ∧ valL (paramT p) = escL (strL p.2) :=
  nameL_hit _ _ fun h => (escL_signs (strL_bd _) _ h).2 rfl
theorem paramT_ne (p : ByteArray × ByteArray) : paramT p ≠ [] := by simp [paramT]
theorem goP_params : ∀ (ps pre : PList) (k : Nat), okP pre ps = true → pre.length + ps.length ≤ 32 → goP (ps.map paramT) k pre = (pre ++ ps, 0, -1)
  | [], pre, k, _, _ => by simp [goP]
  | p :: r, pre, k, h, hl => by
    rw [okP] at h
    simp only [Bool.and_eq_true, Bool.not_eq_true'] at h
    obtain ⟨⟨h1, h2⟩, h3⟩ := h
    simp only [List.length_cons] at hl
    obtain ⟨e1, e2⟩ := paramT_name p
    have m1 := (escL_back (strL_bd p.1)).1
    have m2 := (escL_back (strL_bd p.2)).1
    rw [List.map_cons, goP, if_neg (paramT_ne p), if_neg (by rw [paramT_loose]; omega), e1, e2, m1, m2, toS_strL, toS_strL, if_neg (by rw [h2]; simp), if_neg (by rw [h1]; simp), if_neg (by omega)]
    have ih := goP_params r (pre ++ [p]) (k + ((paramT p).length + 1)) h3 (by simp; omega)
    rw [ih]
    simp
/-- What is printed comes back. -/
theorem parsed_back (ps : PList) (h : (printedP ps).2 = 0) : parsedP (toS (printedP ps).1) = (ps, 0, -1) := by
  unfold printedP at h ⊢
  by_cases c1 : 32 < ps.length
  · rw [if_pos c1] at h; simp at h
  · rw [if_neg c1] at h ⊢
    cases c2 : okP [] ps with
    | false => rw [c2, if_pos rfl] at h; simp at h
    | true =>
      rw [c2, if_neg (by simp)] at h
      rw [if_neg (by simp)]
      by_cases c3 : 4096 < (textP ps).length
      · rw [if_pos c3] at h; simp at h
      · rw [if_neg c3]
        rw [parsedP, size_toS, if_neg c3, strL_toS (textP_bytes ps)]
        by_cases hp : ps = []
        · subst hp; rfl
        · rw [parts_text ps hp, goP_params ps [] 0 c2 (by simp; omega)]; rfl
end Go.Proofs.YtcjnhgcopdofhaaDoor
