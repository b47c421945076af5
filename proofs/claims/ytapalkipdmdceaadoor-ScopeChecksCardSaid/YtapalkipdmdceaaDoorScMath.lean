/- The mathematics of scope: the order of names; sets of names as rising lists; what sorting and compacting come to. -/
import Derived.Test.YtapalkipdmdceaaDoorKit4
import Derived.Lib.SlicesCompact
namespace Go.Proofs.YtapalkipdmdceaaDoor
open Go Go.RowKit

theorem bl_trans : ∀ x y z : List UInt8, Op.bytesLess x y = true → Op.bytesLess y z = true → Op.bytesLess x z = true
  | x, [], z, h, _ => by cases x <;> simp [Op.bytesLess] at h
  | x, b :: y, [], _, h => by simp [Op.bytesLess] at h
  | [], b :: y, c :: z, _, _ => rfl
  | a :: x, b :: y, c :: z, h1, h2 => by
    simp only [Op.bytesLess, Bool.or_eq_true, decide_eq_true_eq, Bool.and_eq_true, beq_iff_eq] at h1 h2 ⊢
    rcases h1 with h1 | ⟨rfl, h1⟩
    · rcases h2 with h2 | ⟨rfl, h2⟩
      · exact .inl (UInt8.lt_trans h1 h2)
      · exact .inl h1
    · rcases h2 with h2 | ⟨rfl, h2⟩
      · exact .inl h2
      · exact .inr ⟨rfl, bl_trans x y z h1 h2⟩
theorem bl_self : ∀ l : List UInt8, Op.bytesLess l l = false
  | [] => rfl
  | a :: l => by simp [Op.bytesLess, bl_self l]
theorem bl_total : ∀ x y : List UInt8, Op.bytesLess x y = false → Op.bytesLess y x = false → x = y
  | [], [], _, _ => rfl
  | [], b :: y, h1, _ => by simp [Op.bytesLess] at h1
  | a :: x, [], _, h2 => by simp [Op.bytesLess] at h2
  | a :: x, b :: y, h1, h2 => by
    have n1 : ¬ a < b := fun e => by simp [Op.bytesLess, e] at h1
    have n2 : ¬ b < a := fun e => by simp [Op.bytesLess, e] at h2
    have e : a = b := UInt8.le_antisymm (UInt8.not_lt.1 n2) (UInt8.not_lt.1 n1)
    subst e
    rw [bl_total x y (by simpa [Op.bytesLess] using h1) (by simpa [Op.bytesLess] using h2)]
theorem bl_asymm {x y : List UInt8} (h : Op.bytesLess x y = true) : Op.bytesLess y x = false := by
  cases h2 : Op.bytesLess y x with
  | false => rfl
  | true => have := bl_trans x y x h h2; rw [bl_self] at this; cases this
theorem bl_eq : ∀ x y : List UInt8, Op.bytesLess x y = decide (x < y)
  | [], [] => by simp [Op.bytesLess]
  | _ :: _, [] => by simp [Op.bytesLess]
  | [], _ :: _ => by simp [Op.bytesLess]
  | a :: x, b :: y => by
    rw [Op.bytesLess, bl_eq x y]
    simp only [List.cons_lt_cons_iff]
    by_cases h1 : a < b <;> by_cases h2 : a = b <;> by_cases h3 : x < y <;> simp [h1, h2, h3]
theorem toList_inj {a b : ByteArray} (h : a.toList = b.toList) : a = b := by
  rw [ByteArray.toList_eq, ByteArray.toList_eq] at h
  cases a; cases b
  congr 1
  exact Array.toList_inj.1 h
/-- One name is less than another. -/
def ltS (a b : ByteArray) : Bool := Op.bytesLess a.toList b.toList
theorem ltS_self (a : ByteArray) : ltS a a = false := bl_self _
theorem ltS_trans {a b c : ByteArray} (h : ltS a b = true) (h2 : ltS b c = true) : ltS a c = true := bl_trans _ _ _ h h2
theorem ltS_total {a b : ByteArray} (h : a ≠ b) (h1 : ltS a b = false) : ltS b a = true := by
  cases h2 : ltS b a with
  | true => rfl
  | false => exact absurd (toList_inj (bl_total _ _ h1 h2)) h
theorem ltS_asymm {a b : ByteArray} (h : ltS a b = true) : ltS b a = false := bl_asymm h
theorem ltS_ne {a b : ByteArray} (h : ltS a b = true) : a ≠ b := fun e => by rw [e, ltS_self] at h; cases h
/-- 'a > b' as it is reckoned. -/
theorem gtS (a b : ByteArray) : (!(Op.bytesLess a.toList b.toList || a.toList == b.toList)) = ltS b a := by
  by_cases e : a = b
  · subst e; simp [ltS_self]
  · have e2 : (a.toList == b.toList) = false := by rw [beq_eq_false_iff_ne]; exact fun h => e (toList_inj h)
    rw [e2, Bool.or_false]
    cases h : Op.bytesLess a.toList b.toList with
    | true => exact (ltS_asymm (a := a) (b := b) h).symm
    | false => exact (ltS_total e h).symm
/-- 'a <= b' as it is reckoned. -/
theorem leS (a b : ByteArray) : (Op.bytesLess a.toList b.toList || a.toList == b.toList) = !ltS b a := by
  rw [← gtS a b, Bool.not_not]
/-- Rising, none twice. -/
def RiseS (l : List ByteArray) : Prop := l.Pairwise fun a b => ltS a b = true
theorem rise_nil : RiseS [] := List.Pairwise.nil
theorem rise_cons {x : ByteArray} {l : List ByteArray} : RiseS (x :: l) ↔ (∀ y ∈ l, ltS x y = true) ∧ RiseS l := List.pairwise_cons
theorem rise_ext : ∀ {a b : List ByteArray}, RiseS a → RiseS b → (∀ x, x ∈ a ↔ x ∈ b) → a = b
  | [], [], _, _, _ => rfl
  | [], y :: b, _, _, h => absurd ((h y).2 List.mem_cons_self) (by simp)
  | x :: a, [], _, _, h => absurd ((h x).1 List.mem_cons_self) (by simp)
  | x :: a, y :: b, ha, hb, h => by
    obtain ⟨ha1, ha2⟩ := rise_cons.1 ha
    obtain ⟨hb1, hb2⟩ := rise_cons.1 hb
    have hxy : x = y := by
      rcases List.mem_cons.1 ((h x).1 List.mem_cons_self) with e | hx
      · exact e
      · rcases List.mem_cons.1 ((h y).2 List.mem_cons_self) with e | hy
        · exact e.symm
        · have h1 := ltS_asymm (hb1 x hx)
          rw [ha1 y hy] at h1; cases h1
    subst hxy
    rw [rise_ext ha2 hb2 fun z => ⟨fun hz => ?_, fun hz => ?_⟩]
    · rcases List.mem_cons.1 ((h z).1 (List.mem_cons_of_mem _ hz)) with e | k
      · exact absurd e.symm (ltS_ne (ha1 z hz))
      · exact k
    · rcases List.mem_cons.1 ((h z).2 (List.mem_cons_of_mem _ hz)) with e | k
      · exact absurd e.symm (ltS_ne (hb1 z hz))
      · exact k
/-- A name laid where it belongs, once. -/
def insG (x : ByteArray) : Bool → List ByteArray → List ByteArray
  | d, [] => if d then [] else [x]
  | d, y :: r => (if d = false ∧ ltS x y = true then [x] else []) ++ y :: insG x (d || ltS x y) r
theorem insG_true (x : ByteArray) : ∀ l, insG x true l = l
  | [] => rfl
  | y :: r => by simp [insG, insG_true x r]
theorem insG_cons (x y : ByteArray) (r : List ByteArray) : insG x false (y :: r) = if ltS x y = true then x :: y :: r else y :: insG x false r := by
  rw [insG]
  cases h : ltS x y <;> simp [insG_true]
theorem mem_insG (x : ByteArray) : ∀ (l : List ByteArray) (z : ByteArray), z ∈ insG x false l ↔ z = x ∨ z ∈ l
  | [], z => by simp [insG]
  | y :: r, z => by
    rw [insG_cons]
    split
    · simp
    · rw [List.mem_cons, mem_insG x r z, List.mem_cons]
      constructor <;> (rintro (h | h | h) <;> simp [h])
theorem length_insG (x : ByteArray) : ∀ l : List ByteArray, (insG x false l).length = l.length + 1
  | [] => rfl
  | y :: r => by
    rw [insG_cons]
    split
    · rfl
    · simp [length_insG x r]
theorem rise_insG (x : ByteArray) : ∀ l : List ByteArray, RiseS l → x ∉ l → RiseS (insG x false l)
  | [], _, _ => by simp [insG, RiseS]
  | y :: r, h, hx => by
    obtain ⟨h1, h2⟩ := rise_cons.1 h
    rw [insG_cons]
    split
    · rename_i hl
      refine rise_cons.2 ⟨fun z hz => ?_, h⟩
      rcases List.mem_cons.1 hz with rfl | hz
      · exact hl
      · exact ltS_trans hl (h1 z hz)
    · rename_i hl
      have hyx : ltS y x = true := ltS_total (fun e => hx (by simp [e])) (by simpa using hl)
      refine rise_cons.2 ⟨fun z hz => ?_, rise_insG x r h2 (fun k => hx (List.mem_cons_of_mem _ k))⟩
      rcases (mem_insG x r z).1 hz with rfl | hz
      · exact hyx
      · exact h1 z hz
/-- Is a name among them? -/
def hasN (l : List ByteArray) (x : ByteArray) : Bool := l.any fun y => y.toList == x.toList
theorem hasN_iff {l : List ByteArray} {x : ByteArray} : hasN l x = true ↔ x ∈ l := by
  unfold hasN
  rw [List.any_eq_true]
  constructor
  · rintro ⟨y, hy, e⟩
    rw [beq_iff_eq] at e
    rwa [← toList_inj e]
  · exact fun h => ⟨x, h, by simp⟩
theorem hasN_not {l : List ByteArray} {x : ByteArray} : hasN l x = false ↔ x ∉ l := by
  rw [← hasN_iff, Bool.not_eq_true]
theorem hasN_cons (y : ByteArray) (l : List ByteArray) (x : ByteArray) : hasN (y :: l) x = (y.toList == x.toList || hasN l x) := rfl
/-- A set with a name more. -/
def putS (l : List ByteArray) (x : ByteArray) : List ByteArray := if hasN l x = true then l else insG x false l
theorem mem_putS {l : List ByteArray} {x z : ByteArray} : z ∈ putS l x ↔ z ∈ l ∨ z = x := by
  unfold putS
  split
  · rename_i h
    constructor
    · exact .inl
    · rintro (h1 | rfl)
      · exact h1
      · exact hasN_iff.1 h
  · rw [mem_insG]; exact Or.comm
theorem rise_putS {l : List ByteArray} {x : ByteArray} (h : RiseS l) : RiseS (putS l x) := by
  unfold putS
  split
  · exact h
  · rename_i hx
    exact rise_insG x l h (fun k => hx (hasN_iff.2 k))
theorem length_putS (l : List ByteArray) (x : ByteArray) : (putS l x).length = if hasN l x = true then l.length else l.length + 1 := by
  unfold putS
  split
  · rfl
  · exact length_insG x l
/-- A list's set. -/
def setS (l : List ByteArray) : List ByteArray := l.foldl putS []
theorem setS_snoc (l : List ByteArray) (x : ByteArray) : setS (l ++ [x]) = putS (setS l) x := by simp [setS, List.foldl_append]
theorem rise_foldl : ∀ (l o : List ByteArray), RiseS o → RiseS (l.foldl putS o)
  | [], _, h => h
  | x :: r, o, h => rise_foldl r _ (rise_putS h)
theorem mem_foldl : ∀ (l o : List ByteArray) (z : ByteArray), z ∈ l.foldl putS o ↔ z ∈ o ∨ z ∈ l
  | [], _, _ => by simp
  | x :: r, o, z => by
    rw [List.foldl_cons, mem_foldl r, mem_putS, List.mem_cons, or_assoc]
theorem rise_setS (l : List ByteArray) : RiseS (setS l) := rise_foldl l [] rise_nil
theorem mem_setS {l : List ByteArray} {z : ByteArray} : z ∈ setS l ↔ z ∈ l := by simp [setS, mem_foldl]
theorem setS_eq {r l : List ByteArray} (h : RiseS r) (hm : ∀ x, x ∈ r ↔ x ∈ l) : r = setS l := rise_ext h (rise_setS l) fun x => by rw [hm, mem_setS]
theorem setS_self {l : List ByteArray} (h : RiseS l) : setS l = l := (setS_eq h fun _ => Iff.rfl).symm
theorem setS_congr {l m : List ByteArray} (h : ∀ x, x ∈ l ↔ x ∈ m) : setS l = setS m := setS_eq (rise_setS l) fun x => by rw [mem_setS, h]
theorem length_foldl_le : ∀ l o : List ByteArray, o.length ≤ (l.foldl putS o).length
  | [], _ => Nat.le_refl _
  | x :: r, o => by
    refine Nat.le_trans ?_ (length_foldl_le r _)
    rw [length_putS]; split <;> omega
theorem length_setS_le : ∀ l o : List ByteArray, (l.foldl putS o).length ≤ o.length + l.length
  | [], _ => Nat.le_refl _
  | x :: r, o => by
    have h := length_setS_le r (putS o x)
    rw [length_putS] at h
    rw [List.foldl_cons, List.length_cons]
    split at h <;> omega
theorem setS_mono (a b : List ByteArray) : (setS a).length ≤ (setS (a ++ b)).length := by
  rw [setS, setS, List.foldl_append]; exact length_foldl_le b _
/-! ### Sorted, then compacted -/
/-- Rising, twice or not. -/
def SortB (l : List (List UInt8)) : Prop := l.Pairwise fun a b => Op.bytesLess b a = false
theorem bl_le {a b c : List UInt8} (h1 : Op.bytesLess b a = false) (h2 : Op.bytesLess b c = true) : Op.bytesLess a c = true := by
  cases h : Op.bytesLess a b with
  | true => exact bl_trans _ _ _ h h2
  | false => rw [bl_total a b h h1]; exact h2
theorem compactUpTo_rise (zs : List (List UInt8)) (hs : SortB zs) : ∀ m, m ≤ zs.length →
    (Lib.compactUpTo zs.toArray m).Pairwise (fun a b => Op.bytesLess a b = true) ∧ ∀ x, x ∈ Lib.compactUpTo zs.toArray m ↔ ∃ j, j < m ∧ zs[j]? = some x
  | 0, _ => by simp [Lib.compactUpTo]
  | m + 1, hm => by
    obtain ⟨h1, h2⟩ := compactUpTo_rise zs hs m (by omega)
    have hget : ∀ j, j < zs.length → zs.toArray[j]! = zs[j]! := fun j hj => by simp
    have hat : ∀ j (hj : j < zs.length), zs[j]! = zs[j] := fun j hj => by simp [hj]
    have hle : ∀ i j (hi : i < zs.length) (hj : j < zs.length), i < j → Op.bytesLess zs[j] zs[i] = false := fun i j hi hj hij => List.pairwise_iff_getElem.1 hs i j hi hj hij
    rw [Lib.compactUpTo_succ]
    cases hk : Lib.keeps zs.toArray m with
    | false =>
      rw [if_neg (by simp), List.append_nil]
      refine ⟨h1, fun x => ⟨fun h => ?_, ?_⟩⟩
      · obtain ⟨j, hj, e⟩ := (h2 x).1 h
        exact ⟨j, by omega, e⟩
      · rintro ⟨j, hj, e⟩
        rcases Nat.lt_or_ge j m with hjm | hjm
        · exact (h2 x).2 ⟨j, hjm, e⟩
        · have : j = m := by omega
          subst this
          unfold Lib.keeps at hk
          simp only [decide_eq_false_iff_not, not_or, ne_eq, Decidable.not_not] at hk
          obtain ⟨h0, he⟩ := hk
          rw [hget _ (by omega), hget _ (by omega), hat _ (by omega), hat _ (by omega)] at he
          refine (h2 x).2 ⟨j - 1, by omega, ?_⟩
          rw [List.getElem?_eq_getElem (by omega)] at e ⊢
          rw [← e, he]
    | true =>
      rw [if_pos rfl, hget m (by omega), hat m (by omega)]
      have hnew : ∀ x ∈ Lib.compactUpTo zs.toArray m, Op.bytesLess x zs[m] = true := by
        intro x hx
        obtain ⟨j, hj, e⟩ := (h2 x).1 hx
        obtain ⟨hjl, rfl⟩ := List.getElem?_eq_some_iff.1 e
        unfold Lib.keeps at hk
        simp only [decide_eq_true_eq] at hk
        rcases hk with h0 | hne
        · omega
        · rw [hget _ (by omega), hget _ (by omega), hat _ (by omega), hat _ (by omega)] at hne
          have hlast : Op.bytesLess zs[m - 1] zs[m] = true := by
            cases h : Op.bytesLess zs[m - 1] zs[m] with
            | true => rfl
            | false => exact absurd (bl_total _ _ (hle (m - 1) m (by omega) (by omega) (by omega)) h) hne
          rcases Nat.lt_or_ge j (m - 1) with hj1 | hj1
          · exact bl_le (hle j (m - 1) hjl (by omega) hj1) hlast
          · have : j = m - 1 := by omega
            subst this
            exact hlast
      refine ⟨List.pairwise_append.2 ⟨h1, by simp, fun a ha b hb => ?_⟩, fun x => ?_⟩
      · rw [List.mem_singleton] at hb; subst hb
        exact hnew a ha
      · rw [List.mem_append, h2, List.mem_singleton]
        constructor
        · rintro (⟨j, hj, e⟩ | rfl)
          · exact ⟨j, by omega, e⟩
          · exact ⟨m, by omega, List.getElem?_eq_getElem (by omega)⟩
        · rintro ⟨j, hj, e⟩
          rcases Nat.lt_or_ge j m with hjm | hjm
          · exact .inl ⟨j, hjm, e⟩
          · have : j = m := by omega
            subst this
            rw [List.getElem?_eq_getElem (by omega)] at e
            exact .inr (Option.some.inj e).symm
theorem compact_rise (zs : List (List UInt8)) (hs : SortB zs) : (Lib.compact zs).Pairwise (fun a b => Op.bytesLess a b = true) ∧ ∀ x, x ∈ Lib.compact zs ↔ x ∈ zs := by
  obtain ⟨h1, h2⟩ := compactUpTo_rise zs hs zs.length (Nat.le_refl _)
  refine ⟨h1, fun x => (h2 x).trans ?_⟩
  rw [List.mem_iff_getElem?]
  exact ⟨fun ⟨j, _, e⟩ => ⟨j, e⟩, fun ⟨j, e⟩ => ⟨j, (List.getElem?_eq_some_iff.1 e).1, e⟩⟩
theorem sort_rise (l : List (List UInt8)) : SortB (l.mergeSort fun x y => decide (x ≤ y)) ∧ (l.mergeSort fun x y => decide (x ≤ y)).Perm l := by
  refine ⟨?_, List.mergeSort_perm _ _⟩
  have h := List.pairwise_mergeSort (le := fun x y : List UInt8 => decide (x ≤ y)) (fun a b c h1 h2 => by simp at h1 h2 ⊢; exact List.le_trans h1 h2) (fun a b => by simpa using List.le_total a b) l
  refine h.imp fun {a b} hab => ?_
  have hab' : a ≤ b := of_decide_eq_true hab
  rw [bl_eq]
  exact decide_eq_false (List.not_lt.2 hab')
/-- A name's bytes. -/
def nmL (s : ByteArray) : List UInt8 := s.data.toList
theorem nmL_toList (s : ByteArray) : s.toList = nmL s := ByteArray.toList_eq ..
/-- A list of bytes as a name. -/
def ofL (l : List UInt8) : ByteArray := ⟨l.toArray⟩
theorem ofL_nmL (s : ByteArray) : ofL (nmL s) = s := by cases s; rfl
theorem nmL_ofL (l : List UInt8) : nmL (ofL l) = l := by simp [nmL, ofL]
/-- Names sorted and compacted are their set. -/
theorem sorted_set (l : List ByteArray) : (Lib.compact ((l.map nmL).mergeSort fun x y => decide (x ≤ y))).map ofL = setS l := by
  obtain ⟨h1, h2⟩ := sort_rise (l.map nmL)
  obtain ⟨h3, h4⟩ := compact_rise _ h1
  refine setS_eq ?_ fun x => ?_
  · unfold RiseS
    rw [List.pairwise_map]
    refine h3.imp fun {a b} h => ?_
    unfold ltS
    rw [nmL_toList, nmL_toList, nmL_ofL, nmL_ofL]; exact h
  · rw [List.mem_map]
    constructor
    · rintro ⟨a, ha, rfl⟩
      obtain ⟨y, hy, rfl⟩ := List.mem_map.1 (h2.mem_iff.1 ((h4 a).1 ha))
      rw [ofL_nmL]; exact hy
    · intro hx
      exact ⟨nmL x, (h4 _).2 (h2.mem_iff.2 (List.mem_map.2 ⟨x, hx, rfl⟩)), ofL_nmL x⟩
end Go.Proofs.YtapalkipdmdceaaDoor
