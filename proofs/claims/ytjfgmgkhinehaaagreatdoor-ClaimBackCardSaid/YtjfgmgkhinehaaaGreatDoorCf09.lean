/- ScMath, ScNames, ScSmall, ScAmong, ScWords, ScRef, ScRefPut: merged. -/
import Derived.Lib.SlicesCompact
import Derived.Maps.OwnSet
import Derived.Lib.OwnBridge
import Derived.Sort.OwnSorted
import Derived.Deep.QuietTactic
import Derived.BigQuiet
import Derived.IntWalk
import Derived.Lib.IndexMore
import Derived.Maps.RangeWalk
import Derived.Laws.Cover1
import Derived.Test.YtjfgmgkhinehaaaGreatDoorCf01
set_option linter.all false
namespace Go.Proofs.YtjfgmgkhinehaaaGreatDoor
open Go Go.RowKit
theorem bl_trans : ∀ x y z : List UInt8, Op.bytesLess x y = true → Op.bytesLess y z = true → Op.bytesLess x z = true
  | x, [], z, h, _ => by cases x <;> simp [Op.bytesLess] at h
  | x, b :: y, [], _, h => by simp [Op.bytesLess] at h
  | [], b :: y, c :: z, _, _ => rfl
  | a :: x, b :: y, c :: z, h1, h2 => by
    simp only [Op.bytesLess, Bool.or_eq_true, decide_eq_true_eq, Bool.and_eq_true, beq_iff_eq] at h1 h2 ⊢
    rcases h1 with h1 | ⟨rfl, h1⟩
    · rcases h2 with h2 | ⟨rfl, h2⟩
      · exact .inl (UInt8.lt_trans h1 h2)
      · exact .inl h1
    · rcases h2 with h2 | ⟨rfl, h2⟩
      · exact .inl h2
      · exact .inr ⟨rfl, bl_trans x y z h1 h2⟩
theorem bl_self : ∀ l : List UInt8, Op.bytesLess l l = false
  | [] => rfl
  | a :: l => by simp [Op.bytesLess, bl_self l]
theorem bl_total : ∀ x y : List UInt8, Op.bytesLess x y = false → Op.bytesLess y x = false → x = y
  | [], [], _, _ => rfl
  | [], b :: y, h1, _ => by simp [Op.bytesLess] at h1
  | a :: x, [], _, h2 => by simp [Op.bytesLess] at h2
  | a :: x, b :: y, h1, h2 => by
    have n1 : ¬ a < b := fun e => by simp [Op.bytesLess, e] at h1
    have n2 : ¬ b < a := fun e => by simp [Op.bytesLess, e] at h2
    have e : a = b := UInt8.le_antisymm (UInt8.not_lt.1 n2) (UInt8.not_lt.1 n1)
    subst e
    rw [bl_total x y (by simpa [Op.bytesLess] using h1) (by simpa [Op.bytesLess] using h2)]
theorem bl_asymm {x y : List UInt8} (h : Op.bytesLess x y = true) : Op.bytesLess y x = false := by
  cases h2 : Op.bytesLess y x with
  | false => rfl
  | true => have := bl_trans x y x h h2; rw [bl_self] at this; cases this
theorem bl_eq : ∀ x y : List UInt8, Op.bytesLess x y = decide (x < y)
  | [], [] => by simp [Op.bytesLess]
  | _ :: _, [] => by simp [Op.bytesLess]
  | [], _ :: _ => by simp [Op.bytesLess]
  | a :: x, b :: y => by
    rw [Op.bytesLess, bl_eq x y]
    simp only [List.cons_lt_cons_iff]
    by_cases h1 : a < b <;> by_cases h2 : a = b <;> by_cases h3 : x < y <;> simp [h1, h2, h3]
theorem toList_inj {a b : ByteArray} (h : a.toList = b.toList) : a = b := by
  rw [ByteArray.toList_eq, ByteArray.toList_eq] at h
  cases a; cases b
  congr 1
  exact Array.toList_inj.1 h
/-- One name is less than another. -/
def ltS (a b : ByteArray) : Bool := Op.bytesLess a.toList b.toList
theorem ltS_self (a : ByteArray) : ltS a a = false := bl_self _
theorem ltS_trans {a b c : ByteArray} (h : ltS a b = true) (h2 : ltS b c = true) : ltS a c = true := bl_trans _ _ _ h h2
theorem ltS_total {a b : ByteArray} (h : a ≠ b) (h1 : ltS a b = false) : ltS b a = true := by
  cases h2 : ltS b a with
  | true => rfl
  | false => exact absurd (toList_inj (bl_total _ _ h1 h2)) h
theorem ltS_asymm {a b : ByteArray} (h : ltS a b = true) : ltS b a = false := bl_asymm h
theorem ltS_ne {a b : ByteArray} (h : ltS a b = true) : a ≠ b := fun e => by rw [e, ltS_self] at h; cases h
/-- Rising, none twice. -/
def RiseS (l : List ByteArray) : Prop := l.Pairwise fun a b => ltS a b = true
theorem rise_nil : RiseS [] := List.Pairwise.nil
theorem rise_cons {x : ByteArray} {l : List ByteArray} : RiseS (x :: l) ↔ (∀ y ∈ l, ltS x y = true) ∧ RiseS l := List.pairwise_cons
theorem rise_ext : ∀ {a b : List ByteArray}, RiseS a → RiseS b → (∀ x, x ∈ a ↔ x ∈ b) → a = b
  | [], [], _, _, _ => rfl
  | [], y :: b, _, _, h => absurd ((h y).2 List.mem_cons_self) (by simp)
  | x :: a, [], _, _, h => absurd ((h x).1 List.mem_cons_self) (by simp)
  | x :: a, y :: b, ha, hb, h => by
    obtain ⟨ha1, ha2⟩ := rise_cons.1 ha
    obtain ⟨hb1, hb2⟩ := rise_cons.1 hb
    have hxy : x = y := by
      rcases List.mem_cons.1 ((h x).1 List.mem_cons_self) with e | hx
      · exact e
      · rcases List.mem_cons.1 ((h y).2 List.mem_cons_self) with e | hy
        · exact e.symm
        · have h1 := ltS_asymm (hb1 x hx)
          rw [ha1 y hy] at h1; cases h1
    subst hxy
    rw [rise_ext ha2 hb2 fun z => ⟨fun hz => ?_, fun hz => ?_⟩]
    · rcases List.mem_cons.1 ((h z).1 (List.mem_cons_of_mem _ hz)) with e | k
      · exact absurd e.symm (ltS_ne (ha1 z hz))
      · exact k
    · rcases List.mem_cons.1 ((h z).2 (List.mem_cons_of_mem _ hz)) with e | k
      · exact absurd e.symm (ltS_ne (hb1 z hz))
      · exact k
/-- A name laid where it belongs, once. -/
def insG (x : ByteArray) : Bool → List ByteArray → List ByteArray
  | d, [] => if d then [] else [x]
  | d, y :: r => (if d = false ∧ ltS x y = true then [x] else []) ++ y :: insG x (d || ltS x y) r
theorem insG_true (x : ByteArray) : ∀ l, insG x true l = l
  | [] => rfl
  | y :: r => by simp [insG, insG_true x r]
theorem insG_cons (x y : ByteArray) (r : List ByteArray) : insG x false (y :: r) = if ltS x y = true then x :: y :: r else y :: insG x false r := by
  rw [insG]
  cases h : ltS x y <;> simp [insG_true]
theorem mem_insG (x : ByteArray) : ∀ (l : List ByteArray) (z : ByteArray), z ∈ insG x false l ↔ z = x ∨ z ∈ l
  | [], z => by simp [insG]
  | y :: r, z => by
    rw [insG_cons]
    split
    · simp
    · rw [List.mem_cons, mem_insG x r z, List.mem_cons]
      constructor <;> (rintro (h | h | h) <;> simp [h])
theorem length_insG (x : ByteArray) : ∀ l : List ByteArray, (insG x false l).length = l.length + 1
  | [] => rfl
  | y :: r => by
    rw [insG_cons]
    split
    · rfl
    · simp [length_insG x r]
theorem rise_insG (x : ByteArray) : ∀ l : List ByteArray, RiseS l → x ∉ l → RiseS (insG x false l)
  | [], _, _ => by simp [insG, RiseS]
  | y :: r, h, hx => by
    obtain ⟨h1, h2⟩ := rise_cons.1 h
    rw [insG_cons]
    split
    · rename_i hl
      refine rise_cons.2 ⟨fun z hz => ?_, h⟩
      rcases List.mem_cons.1 hz with rfl | hz
      · exact hl
      · exact ltS_trans hl (h1 z hz)
    · rename_i hl
      have hyx : ltS y x = true := ltS_total (fun e => hx (by simp [e])) (by simpa using hl)
      refine rise_cons.2 ⟨fun z hz => ?_, rise_insG x r h2 (fun k => hx (List.mem_cons_of_mem _ k))⟩
      rcases (mem_insG x r z).1 hz with rfl | hz
      · exact hyx
      · exact h1 z hz
/-- Is a name among them? -/
def hasN (l : List ByteArray) (x : ByteArray) : Bool := l.any fun y => y.toList == x.toList
theorem hasN_iff {l : List ByteArray} {x : ByteArray} : hasN l x = true ↔ x ∈ l := by
  unfold hasN
  rw [List.any_eq_true]
  constructor
  · rintro ⟨y, hy, e⟩
    rw [beq_iff_eq] at e
    rwa [← toList_inj e]
  · exact fun h => ⟨x, h, by simp⟩
theorem hasN_not {l : List ByteArray} {x : ByteArray} : hasN l x = false ↔ x ∉ l := by
  rw [← hasN_iff, Bool.not_eq_true]
theorem hasN_cons (y : ByteArray) (l : List ByteArray) (x : ByteArray) : hasN (y :: l) x = (y.toList == x.toList || hasN l x) := rfl
/-- A set with a name more. -/
def putS (l : List ByteArray) (x : ByteArray) : List ByteArray := if hasN l x = true then l else insG x false l
theorem mem_putS {l : List ByteArray} {x z : ByteArray} : z ∈ putS l x ↔ z ∈ l ∨ z = x := by
  unfold putS
  split
  · rename_i h
    constructor
    · exact .inl
    · rintro (h1 | rfl)
      · exact h1
      · exact hasN_iff.1 h
  · rw [mem_insG]; exact Or.comm
theorem rise_putS {l : List ByteArray} {x : ByteArray} (h : RiseS l) : RiseS (putS l x) := by
  unfold putS
  split
  · exact h
  · rename_i hx
    exact rise_insG x l h (fun k => hx (hasN_iff.2 k))
theorem length_putS (l : List ByteArray) (x : ByteArray) : (putS l x).length = if hasN l x = true then l.length else l.length + 1 := by
  unfold putS
  split
  · rfl
  · exact length_insG x l
/-- A list's set. -/
def setS (l : List ByteArray) : List ByteArray := l.foldl putS []
theorem setS_snoc (l : List ByteArray) (x : ByteArray) : setS (l ++ [x]) = putS (setS l) x := by simp [setS, List.foldl_append]
theorem rise_foldl : ∀ (l o : List ByteArray), RiseS o → RiseS (l.foldl putS o)
  | [], _, h => h
  | x :: r, o, h => rise_foldl r _ (rise_putS h)
theorem mem_foldl : ∀ (l o : List ByteArray) (z : ByteArray), z ∈ l.foldl putS o ↔ z ∈ o ∨ z ∈ l
  | [], _, _ => by simp
  | x :: r, o, z => by
    rw [List.foldl_cons, mem_foldl r, mem_putS, List.mem_cons, or_assoc]
theorem rise_setS (l : List ByteArray) : RiseS (setS l) := rise_foldl l [] rise_nil
theorem mem_setS {l : List ByteArray} {z : ByteArray} : z ∈ setS l ↔ z ∈ l := by simp [setS, mem_foldl]
theorem setS_eq {r l : List ByteArray} (h : RiseS r) (hm : ∀ x, x ∈ r ↔ x ∈ l) : r = setS l := rise_ext h (rise_setS l) fun x => by rw [hm, mem_setS]
theorem setS_congr {l m : List ByteArray} (h : ∀ x, x ∈ l ↔ x ∈ m) : setS l = setS m := setS_eq (rise_setS l) fun x => by rw [mem_setS, h]
theorem length_foldl_le : ∀ l o : List ByteArray, o.length ≤ (l.foldl putS o).length
  | [], _ => Nat.le_refl _
  | x :: r, o => by
    refine Nat.le_trans ?_ (length_foldl_le r _)
    rw [length_putS]; split <;> omega
theorem length_setS_le : ∀ l o : List ByteArray, (l.foldl putS o).length ≤ o.length + l.length
  | [], _ => Nat.le_refl _
  | x :: r, o => by
    have h := length_setS_le r (putS o x)
    rw [length_putS] at h
    rw [List.foldl_cons, List.length_cons]
    split at h <;> omega
theorem setS_mono (a b : List ByteArray) : (setS a).length ≤ (setS (a ++ b)).length := by
  rw [setS, setS, List.foldl_append]; exact length_foldl_le b _
/-! ### Sorted, then compacted -/
/-- Rising, twice or not. -/
def SortB (l : List (List UInt8)) : Prop := l.Pairwise fun a b => Op.bytesLess b a = false
theorem bl_le {a b c : List UInt8} (h1 : Op.bytesLess b a = false) (h2 : Op.bytesLess b c = true) : Op.bytesLess a c = true := by
  cases h : Op.bytesLess a b with
  | true => exact bl_trans _ _ _ h h2
  | false => rw [bl_total a b h h1]; exact h2
theorem compactUpTo_rise (zs : List (List UInt8)) (hs : SortB zs) : ∀ m, m ≤ zs.length →
    (Lib.compactUpTo zs.toArray m).Pairwise (fun a b => Op.bytesLess a b = true) ∧ ∀ x, x ∈ Lib.compactUpTo zs.toArray m ↔ ∃ j, j < m ∧ zs[j]? = some x
  | 0, _ => by simp [Lib.compactUpTo]
  | m + 1, hm => by
    obtain ⟨h1, h2⟩ := compactUpTo_rise zs hs m (by omega)
    have hget : ∀ j, j < zs.length → zs.toArray[j]! = zs[j]! := fun j hj => by simp
    have hat : ∀ j (hj : j < zs.length), zs[j]! = zs[j] := fun j hj => by simp [hj]
    have hle : ∀ i j (hi : i < zs.length) (hj : j < zs.length), i < j → Op.bytesLess zs[j] zs[i] = false := fun i j hi hj hij => List.pairwise_iff_getElem.1 hs i j hi hj hij
    rw [Lib.compactUpTo_succ]
    cases hk : Lib.keeps zs.toArray m with
    | false =>
      rw [if_neg (by simp), List.append_nil]
      refine ⟨h1, fun x => ⟨fun h => ?_, ?_⟩⟩
      · obtain ⟨j, hj, e⟩ := (h2 x).1 h
        exact ⟨j, by omega, e⟩
      · rintro ⟨j, hj, e⟩
        rcases Nat.lt_or_ge j m with hjm | hjm
        · exact (h2 x).2 ⟨j, hjm, e⟩
        · have : j = m := by omega
          subst this
          unfold Lib.keeps at hk
          simp only [decide_eq_false_iff_not, not_or, ne_eq, Decidable.not_not] at hk
          obtain ⟨h0, he⟩ := hk
          rw [hget _ (by omega), hget _ (by omega), hat _ (by omega), hat _ (by omega)] at he
          refine (h2 x).2 ⟨j - 1, by omega, ?_⟩
          rw [List.getElem?_eq_getElem (by omega)] at e ⊢
          rw [← e, he]
    | true =>
      rw [if_pos rfl, hget m (by omega), hat m (by omega)]
      have hnew : ∀ x ∈ Lib.compactUpTo zs.toArray m, Op.bytesLess x zs[m] = true := by
        intro x hx
        obtain ⟨j, hj, e⟩ := (h2 x).1 hx
        obtain ⟨hjl, rfl⟩ := List.getElem?_eq_some_iff.1 e
        unfold Lib.keeps at hk
        simp only [decide_eq_true_eq] at hk
        rcases hk with h0 | hne
        · omega
        · rw [hget _ (by omega), hget _ (by omega), hat _ (by omega), hat _ (by omega)] at hne
          have hlast : Op.bytesLess zs[m - 1] zs[m] = true := by
            cases h : Op.bytesLess zs[m - 1] zs[m] with
            | true => rfl
            | false => exact absurd (bl_total _ _ (hle (m - 1) m (by omega) (by omega) (by omega)) h) hne
          rcases Nat.lt_or_ge j (m - 1) with hj1 | hj1
          · exact bl_le (hle j (m - 1) hjl (by omega) hj1) hlast
          · have : j = m - 1 := by omega
            subst this
            exact hlast
      refine ⟨List.pairwise_append.2 ⟨h1, by simp, fun a ha b hb => ?_⟩, fun x => ?_⟩
      · rw [List.mem_singleton] at hb; subst hb
        exact hnew a ha
      · rw [List.mem_append, h2, List.mem_singleton]
        constructor
        · rintro (⟨j, hj, e⟩ | rfl)
          · exact ⟨j, by omega, e⟩
          · exact ⟨m, by omega, List.getElem?_eq_getElem (by omega)⟩
        · rintro ⟨j, hj, e⟩
          rcases Nat.lt_or_ge j m with hjm | hjm
          · exact .inl ⟨j, hjm, e⟩
          · have : j = m := by omega
            subst this
            rw [List.getElem?_eq_getElem (by omega)] at e
            exact .inr (Option.some.inj e).symm
theorem compact_rise (zs : List (List UInt8)) (hs : SortB zs) : (Lib.compact zs).Pairwise (fun a b => Op.bytesLess a b = true) ∧ ∀ x, x ∈ Lib.compact zs ↔ x ∈ zs := by
  obtain ⟨h1, h2⟩ := compactUpTo_rise zs hs zs.length (Nat.le_refl _)
  refine ⟨h1, fun x => (h2 x).trans ?_⟩
  rw [List.mem_iff_getElem?]
  exact ⟨fun ⟨j, _, e⟩ => ⟨j, e⟩, fun ⟨j, e⟩ => ⟨j, (List.getElem?_eq_some_iff.1 e).1, e⟩⟩
theorem sort_rise (l : List (List UInt8)) : SortB (l.mergeSort fun x y => decide (x ≤ y)) ∧ (l.mergeSort fun x y => decide (x ≤ y)).Perm l := by
  refine ⟨?_, List.mergeSort_perm _ _⟩
  have h := List.pairwise_mergeSort (le := fun x y : List UInt8 => decide (x ≤ y)) (fun a b c h1 h2 => by simp at h1 h2 ⊢; exact List.le_trans h1 h2) (fun a b => by simpa using List.le_total a b) l
  refine h.imp fun {a b} hab => ?_
  have hab' : a ≤ b := of_decide_eq_true hab
  rw [bl_eq]
  exact decide_eq_false (List.not_lt.2 hab')
/-- A name's bytes. -/
def nmL (s : ByteArray) : List UInt8 := s.data.toList
theorem nmL_toList (s : ByteArray) : s.toList = nmL s := ByteArray.toList_eq ..
/-- A list of bytes as a name. -/
def ofL (l : List UInt8) : ByteArray := ⟨l.toArray⟩
theorem ofL_nmL (s : ByteArray) : ofL (nmL s) = s := by cases s; rfl
theorem nmL_ofL (l : List UInt8) : nmL (ofL l) = l := by simp [nmL, ofL]
/-- Names sorted and compacted are their set. -/
theorem sorted_set (l : List ByteArray) : (Lib.compact ((l.map nmL).mergeSort fun x y => decide (x ≤ y))).map ofL = setS l := by
  obtain ⟨h1, h2⟩ := sort_rise (l.map nmL)
  obtain ⟨h3, h4⟩ := compact_rise _ h1
  refine setS_eq ?_ fun x => ?_
  · unfold RiseS
    rw [List.pairwise_map]
    refine h3.imp fun {a b} h => ?_
    unfold ltS
    rw [nmL_toList, nmL_toList, nmL_ofL, nmL_ofL]; exact h
  · rw [List.mem_map]
    constructor
    · rintro ⟨a, ha, rfl⟩
      obtain ⟨y, hy, rfl⟩ := List.mem_map.1 (h2.mem_iff.1 ((h4 a).1 ha))
      rw [ofL_nmL]; exact hy
    · intro hx
      exact ⟨nmL x, (h4 _).2 (h2.mem_iff.2 (List.mem_map.2 ⟨x, hx, rfl⟩)), ofL_nmL x⟩
end Go.Proofs.YtjfgmgkhinehaaaGreatDoor
namespace Go.Proofs.YtjfgmgkhinehaaaGreatDoor
open Go Go.RowKit
/-- Names that lie one behind the other. -/
def LiesN (w : World) (A : Option Addr) (ns : List ByteArray) : Prop := ns ≠ [] → ∃ b o, A = some ⟨b, o, none⟩ ∧ b < w.heap.size ∧ ∀ i x, ns[i]? = some x → w.cell? ⟨b, o + i, none⟩ = some (.string x)
theorem LiesN.none (w : World) (A : Option Addr) : LiesN w A [] := fun h => absurd rfl h
theorem LiesN.below {w w' : World} {A : Option Addr} {ns : List ByteArray} (h : LiesN w A ns) (hb : Below w.heap.size w w') : LiesN w' A ns := fun hp => by
  obtain ⟨b, o, e, hlt, hc⟩ := h hp
  exact ⟨b, o, e, Nat.lt_of_lt_of_le hlt hb.size, fun i x hi => (hb.cell (p := ⟨b, o + i, Option.none⟩) hlt).trans (hc i x hi)⟩
theorem LiesN.at {w : World} {A : Option Addr} {ns : List ByteArray} (h : LiesN w A ns) {i : Nat} (hi : i < ns.length) : ∃ b o, A = some ⟨b, o, Option.none⟩ ∧ b < w.heap.size ∧ w.cell? ⟨b, o + i, Option.none⟩ = some (.string ns[i]) := by
  obtain ⟨b, o, e, hlt, hc⟩ := h (by intro h0; rw [h0] at hi; exact absurd hi (by simp))
  exact ⟨b, o, e, hlt, hc i _ (List.getElem?_eq_getElem hi)⟩
/-- How long a name may be where it is looked at. -/
def NmOk (ns : List ByteArray) : Prop := ∀ x ∈ ns, x.size ≤ 1000000000
theorem NmOk.nil : NmOk [] := fun _ h => by cases h
theorem NmOk.sub {a b : List ByteArray} (h : NmOk b) (hs : ∀ x ∈ a, x ∈ b) : NmOk a := fun x hx => h x (hs x hx)
/-- A slice whose names are these. -/
def SliceN (w : World) (v : Value) (ns : List ByteArray) : Prop := ∃ A c, v = .slice A ns.length c ∧ ns.length ≤ c ∧ LiesN w A ns ∧ NmOk ns
theorem SliceN.below {w w' : World} {v : Value} {ns : List ByteArray} (h : SliceN w v ns) (hb : Below w.heap.size w w') : SliceN w' v ns := by
  obtain ⟨A, c, e, hc, hl, ho⟩ := h
  exact ⟨A, c, e, hc, hl.below hb, ho⟩
theorem SliceN.ok {w : World} {v : Value} {ns : List ByteArray} (h : SliceN w v ns) : NmOk ns := by
  obtain ⟨A, c, e, hc, hl, ho⟩ := h; exact ho
theorem SliceN.nil (w : World) : SliceN w (.slice none 0 0) [] := ⟨none, 0, rfl, Nat.le_refl _, .none _ _, .nil⟩
/-- The values of names. -/
def strV (ns : List ByteArray) : List Value := ns.map Value.string
theorem strV_append (a b : List ByteArray) : strV (a ++ b) = strV a ++ strV b := by simp [strV]
theorem length_strV (a : List ByteArray) : (strV a).length = a.length := by simp [strV]
theorem strV_enc (ns : List ByteArray) : strV ns = (ns.map nmL).map encStr := by
  unfold strV nmL
  rw [Lib.map_encStr]
/-- A row of a call's own is such a slice. -/
theorem SliceN.own {w : World} {B e n : Nat} {v : Value} {ns : List ByteArray} (h : w.ownsRow B e 1 v n (strV ns)) (ho : NmOk ns) : SliceN w v ns := by
  have hn : ns.length = n := by have := h.1; rw [length_strV] at this; omega
  subst hn
  have h0 := h
  rcases h.2 with ⟨rfl, h1⟩ | ⟨g, cap, cur, rfl, hb, hcell, hle, hm, _⟩
  · have : ns = [] := List.eq_nil_of_length_eq_zero h1
    subst this
    exact .nil w
  · refine ⟨_, cap, rfl, hle, fun hp => ⟨g, 0, rfl, (h0.lt g rfl).2, fun i x hi => ?_⟩, ho⟩
    have hj := (List.getElem?_eq_some_iff.1 hi).1
    rw [Nat.zero_add, h0.cellAt i (by simpa using hj)]
    simp [strV, hi]
/-- Lists of names that lie one behind the other. -/
def LiesLs (w : World) (lb : Nat) (ls : List (Value × List ByteArray)) : Prop := ∀ i v ns, ls[i]? = some (v, ns) → w.cell? ⟨lb, i, none⟩ = some v ∧ SliceN w v ns
/-- All their names. -/
def flatN (ls : List (Value × List ByteArray)) : List ByteArray := ls.flatMap (·.2)
theorem flatN_take {ls : List (Value × List ByteArray)} {k : Nat} {v : Value} {ns : List ByteArray} (h : ls[k]? = some (v, ns)) : flatN (ls.take (k + 1)) = flatN (ls.take k) ++ ns := by
  obtain ⟨hk, e⟩ := List.getElem?_eq_some_iff.1 h
  rw [List.take_succ_eq_append_getElem hk, e]
  simp [flatN]
theorem flatN_le {ls : List (Value × List ByteArray)} {k : Nat} {v : Value} {ns : List ByteArray} (h : ls[k]? = some (v, ns)) : (flatN (ls.take k)).length + ns.length ≤ (flatN ls).length := by
  have e := flatN_take h
  have h2 : flatN ls = flatN (ls.take (k + 1)) ++ flatN (ls.drop (k + 1)) := by
    unfold flatN
    rw [← List.flatMap_append, List.take_append_drop]
  rw [h2, e]
  simp
end Go.Proofs.YtjfgmgkhinehaaaGreatDoor
namespace Go.Proofs.YtjfgmgkhinehaaaGreatDoor
open Go Go.RowKit
/-- A byte of a name. -/
def okB (c : Int) : Bool := decide ((97 ≤ c ∧ c ≤ 122) ∨ (48 ≤ c ∧ c ≤ 57) ∨ c = 46 ∨ c = 58 ∨ c = 95 ∨ c = 45)
/-- A name. -/
def nameB (l : List Int) : Bool := decide (1 ≤ l.length ∧ l.length ≤ 32) && l.all okB
theorem ret_bool {a b : Bool} (h : a = b) : Ending.returned (.bool a) = .returned (.bool b) := by rw [h]
theorem drop_strN (s : ByteArray) (k : Nat) (h : k < s.size) : (strL s).drop k = (s[k].toNat : Int) :: (strL s).drop (k + 1) := by
  rw [List.drop_eq_getElem_cons (by rw [length_strL]; exact h)]
  congr 1
  have := strL_get s k h
  rw [List.getD_eq_getElem?_getD, List.getElem?_eq_getElem (by rw [length_strL]; exact h)] at this
  exact this
set_option maxRecDepth 100000 in
set_option maxHeartbeats 1000000 in
theorem mayBeIn_any (c : Int) (w : World) (h0 : 0 ≤ c) (h1 : c ≤ 255) :
    Calls Tryz.prog 90 #[.int .u8 c] w fun e w' => e = .returned (.bool (okB c)) ∧ w = w' := by
  have key : ((97 ≤ c ∧ c ≤ 122) ∨ (48 ≤ c ∧ c ≤ 57) ∨ c = 46 ∨ c = 58 ∨ c = 95 ∨ c = 45) ∨ ((¬ 97 ≤ c ∨ ¬ c ≤ 122) ∧ (¬ 48 ≤ c ∨ ¬ c ≤ 57) ∧ c ≠ 46 ∧ c ≠ 58 ∧ c ≠ 95 ∧ c ≠ 45) := by omega
  rcases key with (⟨a, b⟩ | ⟨a, b⟩ | rfl | rfl | rfl | rfl) | ⟨k1, k2, e1, e2, e3, e4⟩
  · have HR : Hid (okB c = true) := Lib.hid (by simp [okB, a, b])
    go_enter Tryz.func90, Tryz.ntmps90
    go_wp2
    all_goals (go_ret; exact ⟨ret_bool HR.out.symm, rfl⟩)
  · have HR : Hid (okB c = true) := Lib.hid (by simp [okB, a, b])
    have a1 : ¬ 97 ≤ c := by omega
    go_enter Tryz.func90, Tryz.ntmps90
    go_wp2
    all_goals (go_ret; exact ⟨ret_bool HR.out.symm, rfl⟩)
  · go_enter Tryz.func90, Tryz.ntmps90
    go_wp2
    all_goals (go_ret; exact ⟨rfl, rfl⟩)
  · go_enter Tryz.func90, Tryz.ntmps90
    go_wp2
    all_goals (go_ret; exact ⟨rfl, rfl⟩)
  · go_enter Tryz.func90, Tryz.ntmps90
    go_wp2
    all_goals (go_ret; exact ⟨rfl, rfl⟩)
  · go_enter Tryz.func90, Tryz.ntmps90
    go_wp2
    all_goals (go_ret; exact ⟨rfl, rfl⟩)
  · have HR : Hid (okB c = false) := Lib.hid (by simp only [okB, decide_eq_false_iff_not]; omega)
    have q1 : (c == 46) = false := by simp [e1]
    have q2 : (c == 58) = false := by simp [e2]
    have q3 : (c == 95) = false := by simp [e3]
    have q4 : (c == 45) = false := by simp [e4]
    clear e1 e2 e3 e4
    rcases k1 with k1 | k1 <;> rcases k2 with k2 | k2
    all_goals
      go_enter Tryz.func90, Tryz.ntmps90
      go_wp2
      all_goals first | (exfalso; omega) | (go_ret; exact ⟨ret_bool HR.out.symm, rfl⟩)
theorem nameB_len {l : List Int} (h : nameB l = true) : 1 ≤ l.length ∧ l.length ≤ 32 := by
  unfold nameB at h
  rw [Bool.and_eq_true] at h
  exact of_decide_eq_true h.1
set_option maxRecDepth 100000 in
set_option maxHeartbeats 1000000 in
theorem scName_any (s : ByteArray) (w : World) :
    Calls Tryz.prog 57 #[.string s] w fun e w' => e = .returned (.bool (nameB (strL s))) ∧ w = w' := by
  have HLEN := Lib.hid (length_strL s)
  by_cases h1 : s.size = 0
  · obtain rfl : s = ⟨#[]⟩ := by
      obtain ⟨d⟩ := s
      have : d.size = 0 := h1
      rw [Array.eq_empty_of_size_eq_zero this]
    go_enter Tryz.func57, Tryz.ntmps57
    go_wp2
    go_ret
    exact ⟨rfl, rfl⟩
  · have hne : (s.toList == ([] : List UInt8)) = false := by
      rw [beq_eq_false_iff_ne, ByteArray.toList_eq]
      intro e
      apply h1
      show s.data.size = 0
      rw [← Array.length_toList, e]; rfl
    have hne2 : (s.toList == (⟨#[]⟩ : ByteArray).toList) = false := by rw [show (⟨#[]⟩ : ByteArray).toList = [] by rw [ByteArray.toList_eq]]; exact hne
    by_cases h2 : s.size ≤ 32
    · have h3 : ¬ (32 : Int) < (s.size : Int) := by omega
      have hn : nameB (strL s) = (strL s).all okB := by
        unfold nameB
        rw [decide_eq_true (by rw [length_strL]; omega), Bool.true_and]
      rw [hn]
      clear hn
      go_enter Tryz.func57, Tryz.ntmps57
      go_wp2
      go_loop [13] (fun v => ∃ k : Nat, k ≤ s.size ∧ v = .int .i64 (k : Int) ∧ (strL s).all okB = ((strL s).drop k).all okB) (fun v => s.size - (intOf v).toNat)
      case atStart => exact ⟨0, Nat.zero_le _, rfl, rfl⟩
      case round =>
        obtain ⟨k, hk, rfl, hrun⟩ := hrel
        have HRUN := Lib.hid hrun
        clear hrun
        by_cases hlt : k < s.size
        · have hd := drop_strN s k hlt
          have hi0 : (0 : Int) ≤ (k : Int) := by omega
          have hcb := s[k].toNat_lt
          have HM := Lib.hid (fun W : World => mayBeIn_any (s[k].toNat : Int) W (by omega) (by omega))
          cases ho : okB (s[k].toNat : Int) with
          | false =>
            have HR : Hid ((strL s).all okB = false) := Lib.hid (by rw [HRUN.out, hd, List.all_cons, ho]; rfl)
            rw [ho] at HM
            clear hd ho hcb
            go_wp2_with (go_at_call 90; (with_reducible refine (HM.out _).mono ?_); rintro e w' ⟨rfl, rfl⟩)
            go_ret
            exact ⟨ret_bool HR.out.symm, rfl⟩
          | true =>
            have HR : Hid ((strL s).all okB = ((strL s).drop (k + 1)).all okB) := Lib.hid (by rw [HRUN.out, hd, List.all_cons, ho]; rfl)
            rw [ho] at HM
            clear hd ho hcb
            go_wp2_with (go_at_call 90; (with_reducible refine (HM.out _).mono ?_); rintro e w' ⟨rfl, rfl⟩)
            go_round
            case rel => exact ⟨k + 1, by omega, by go_num, HR.out⟩
            case measure => simp [intOf]; omega
        · obtain rfl : k = s.size := by omega
          have HR : Hid ((strL s).all okB = true) := Lib.hid (by rw [HRUN.out, List.drop_of_length_le (by rw [HLEN.out]; exact Nat.le_refl _)]; rfl)
          clear hlt
          go_wp2
          go_ret
          exact ⟨ret_bool HR.out.symm, rfl⟩
    · have h3 : (32 : Int) < (s.size : Int) := by omega
      have HR : Hid (nameB (strL s) = false) := Lib.hid (by unfold nameB; rw [decide_eq_false (by rw [length_strL]; omega), Bool.false_and])
      go_enter Tryz.func57, Tryz.ntmps57
      go_wp2
      go_ret
      exact ⟨ret_bool HR.out.symm, rfl⟩
end Go.Proofs.YtjfgmgkhinehaaaGreatDoor
namespace Go.Proofs.YtjfgmgkhinehaaaGreatDoor
open Go Go.RowKit Go.Maps
theorem strKey : Keyed Tryz.prog 9 := string_keyed Tryz.underlying9
theorem zeroUnit (w : World) : (zeroValue 210).run Tryz.prog w = .ok (.agg #[]) w := by kernel_rfl
theorem run_makeMapN (n : Nat) (w : World) : (Instr.makeMap 209 (some (.int .i64 (n : Int)))).run Tryz.prog w = .ok (.map (some w.heap.size)) (w.alloc (.map #[] 0)) := by
  unfold Instr.makeMap
  simp [Sem.run_bind, run_underlying Tryz.underlying209, asInt]
  rfl
/-- A list's names as a set of keys. -/
def setD (ns : List ByteArray) : DataW Unit := setOf (.agg []) (ns.map fun x => Lit.string (nmL x))
theorem has_setD (ns : List ByteArray) (x : ByteArray) : Maps.has (setD ns) (.string (nmL x)) = hasN ns x := by
  unfold setD
  rw [has_setOf _ _ _ (by intro y hy; obtain ⟨z, _, rfl⟩ := List.mem_map.1 hy; trivial), List.any_map]
  unfold hasN
  congr 1
  funext y
  show (Lit.string (nmL y)).sameKey (.string (nmL x)) = (y.toList == x.toList)
  rw [nmL_toList, nmL_toList]; rfl
theorem setD_snoc (ns : List ByteArray) (x : ByteArray) : setD (ns ++ [x]) = (setD ns).put (.string (nmL x)) (.agg []) := by
  unfold setD
  rw [List.map_append, List.map_singleton, setOf_snoc]
theorem keyS (x : ByteArray) (h : x.size ≤ 1000000000) : keyOf Tryz.prog 9 (.string x) = some (.string (nmL x)) := Go.WideMaps.keyOf_string_mk Tryz.underlying9 (by unfold maxLen; omega)
/-- Block mb is a set of these names; the variable that holds it lies in block vb. -/
def SetAt (w : World) (vb mb : Nat) (ns : List ByteArray) : Prop := w.cell? ⟨vb, 0, none⟩ = some (.map (some mb)) ∧ vb < w.heap.size ∧ mb < w.heap.size ∧ ∃ n, w.ownsMap Tryz.prog 9 unitElem mb n (setD ns)
theorem SetAt.below {w w' : World} {vb mb : Nat} {ns : List ByteArray} (h : SetAt w vb mb ns) (hb : Below w.heap.size w w') : SetAt w' vb mb ns := by
  obtain ⟨h1, h2, h3, n, es, clock, h4, h5⟩ := h
  exact ⟨(hb.cell (p := ⟨vb, 0, none⟩) h2).trans h1, Nat.lt_of_lt_of_le h2 hb.size, Nat.lt_of_lt_of_le h3 hb.size, n, es, clock, by rw [hb.block mb h3]; exact h4, h5⟩
set_option maxRecDepth 100000 in
set_option maxHeartbeats 1000000 in
theorem isIn_any (vb mb : Nat) (ns : List ByteArray) (x : ByteArray) (w : World) (h : SetAt w vb mb ns) (hx : x.size ≤ 1000000000) :
    Calls Tryz.prog 155 #[.string x, .pointer (some ⟨vb, 0, none⟩)] w fun e w' => e = .returned (.bool (hasN ns x)) ∧ Below w.heap.size w w' := by
  obtain ⟨h1, h2, h3, n, hown⟩ := h
  have HR : Hid (Maps.has (setD ns) (.string (nmL x)) = hasN ns x) := Lib.hid (has_setD ns x)
  have HOW := Lib.hid hown
  have HK := Lib.hid (keyS x hx)
  have HB := Lib.hid (fun o => belowAlloc w o)
  clear hown
  go_enter Tryz.func155, Tryz.ntmps155
  go_wp2_with (at_lookup; refine wpList_lookup_own_unit _ rfl _ _ 209 rfl 9 210 strKey Tryz.underlying209 (zeroUnit _) mb n _ rfl HOW.out _ _ rfl HK.out ?_; rw [HR.out])
  go_ret
  exact ⟨rfl, HB.out _⟩
set_option maxRecDepth 100000 in
set_option maxHeartbeats 2000000 in
theorem among_any (v : Value) (ns : List ByteArray) (w : World) (h : SliceN w v ns) (hn : ns.length ≤ 1000000000) :
    Calls Tryz.prog 126 #[v] w fun e w' => ∃ vb mb, e = .returned (.func (.func 155) #[] #[.pointer (some ⟨vb, 0, none⟩)]) ∧ w.heap.size ≤ vb ∧ SetAt w' vb mb ns ∧ Below w.heap.size w w' := by
  obtain ⟨A, c, rfl, hc, hl, hok⟩ := h
  obtain ⟨n, hnn⟩ : ∃ n, n = ns.length := ⟨_, rfl⟩
  rw [← hnn] at hc hn ⊢
  have HN := Lib.hid hnn
  have HL := Lib.hid hl
  have HOK := Lib.hid hok
  have hmm := run_makeMapN n
  have HM0 : Hid (∀ W : World, (W.alloc (.map #[] 0)).ownsMap Tryz.prog 9 unitElem W.heap.size 0 (setD [])) := Lib.hid (fun W => World.ownsMap_made _ _ _ _)
  clear hnn hl hok
  go_enter Tryz.func126, Tryz.ntmps126
  go_wp2
  go_loopw [11] (fun i wr => ∃ k : Nat, k ≤ n ∧ i = .int .i64 (k : Int) ∧ wr.ownsMap Tryz.prog 9 unitElem w.heap.size k (setD (ns.take k)) ∧ wr.cell? ⟨w.heap.size + 1, 0, none⟩ = some (.map (some w.heap.size)) ∧ Below w.heap.size w wr ∧ w.heap.size + 2 ≤ wr.heap.size) (fun i _ => n - (intOf i).toNat)
  case atStart =>
    refine ⟨0, Nat.zero_le _, rfl, ?_, by simp, ?_, by simp⟩
    · rw [List.take_zero]
      exact (HM0.out w).alloc _
    · exact (belowAlloc w _).alloc (by simp) _
  case round =>
    obtain ⟨k, hk, rfl, hown, hvar, hbel, hsz⟩ := hrel
    have HOW := Lib.hid hown
    have HBE := Lib.hid hbel
    clear hown hbel
    by_cases hlt : k < n
    · have hkl : k < ns.length := by rw [← HN.out]; exact hlt
      obtain ⟨b, o, rfl, _, hcell⟩ := (HL.out.below HBE.out).at hkl
      have hi0 : (0 : Int) ≤ (k : Int) := by omega
      have HST : Hid (setD (ns.take (k + 1)) = (setD (ns.take k)).put (.string (nmL ns[k])) (.agg [])) := Lib.hid (by rw [List.take_succ_eq_append_getElem hkl, setD_snoc])
      have HK := Lib.hid (keyS ns[k] (HOK.out _ (List.getElem_mem hkl)))
      obtain ⟨x, hx⟩ : ∃ x, x = ns[k] := ⟨_, rfl⟩
      rw [← hx] at hcell HST HK
      clear hx hkl
      go_wp2_with (at_mapUpdate; refine wpList_mapUpdate_own _ rfl _ _ _ 209 rfl 9 210 strKey Tryz.underlying209 (unitElem (H := Unit)) w.heap.size k _ rfl HOW.out (by unfold maxLen; omega) _ _ _ rfl rfl HK.out _ [] unitElem_mk ?_; intro w1 hown1 hgrow1)
      have h1 := hgrow1.size
      have hv1 : w1.cell? ⟨w.heap.size + 1, 0, none⟩ = some (.map (some w.heap.size)) := by
        rw [← hvar]; unfold World.cell?
        rw [hgrow1.block (w.heap.size + 1) (by omega) (by simp)]
      go_roundw
      case rel => exact ⟨k + 1, by omega, by go_num, by rw [HST.out]; exact hown1, hv1, HBE.out.grown hgrow1 HBE.out.size (fun j hj => by cases hj; exact Nat.le_refl _), by omega⟩
      case measure => simp [intOf]; omega
    · obtain rfl : k = n := by omega
      have HT : Hid (ns.take k = ns) := Lib.hid (by rw [HN.out]; exact List.take_length)
      clear hlt
      go_wp2
      go_ret
      refine ⟨w.heap.size + 1, w.heap.size, rfl, by omega, ⟨hvar, by omega, by omega, k, ?_⟩, HBE.out⟩
      have := HOW.out
      rwa [HT.out] at this
end Go.Proofs.YtjfgmgkhinehaaaGreatDoor
namespace Go.Proofs.YtjfgmgkhinehaaaGreatDoor
open Go Go.RowKit
/-- The words between the blanks. -/
def wordsU : List UInt8 → List (List UInt8)
  | [] => [[]]
  | c :: r => if c = 32 then [] :: wordsU r else
    match wordsU r with
    | p :: ps => (c :: p) :: ps
    | [] => [[c]]
theorem wordsU_hit : ∀ (a b : List UInt8), 32 ∉ a → wordsU (a ++ 32 :: b) = a :: wordsU b
  | [], b, _ => by simp [wordsU]
  | c :: r, b, h => by
    have hc : ¬ c = 32 := fun e => h (by simp [e])
    have ih := wordsU_hit r b (fun k => h (List.mem_cons_of_mem _ k))
    rw [List.cons_append, wordsU, if_neg hc, ih]
theorem wordsU_miss : ∀ (a : List UInt8), 32 ∉ a → wordsU a = [a]
  | [], _ => rfl
  | c :: r, h => by
    have hc : ¬ c = 32 := fun e => h (by simp [e])
    rw [wordsU, if_neg hc, wordsU_miss r (fun k => h (List.mem_cons_of_mem _ k))]
theorem indexB_spec (c : UInt8) : ∀ l : List UInt8, (Lib.indexByte l c = -1 ∧ c ∉ l) ∨ ∃ a b, l = a ++ c :: b ∧ c ∉ a ∧ Lib.indexByte l c = a.length
  | [] => .inl ⟨rfl, by simp⟩
  | b :: l => by
    unfold Lib.indexByte
    by_cases h : b = c
    · subst h
      exact .inr ⟨[], l, rfl, by simp, by simp⟩
    · have hb : (b == c) = false := beq_eq_false_iff_ne.2 h
      have h' : ¬ c = b := fun e => h e.symm
      rcases indexB_spec c l with ⟨h1, h2⟩ | ⟨a, b', h1, h2, h3⟩
      · exact .inl ⟨by rw [hb, h1]; rfl, by simp [h', h2]⟩
      · refine .inr ⟨b :: a, b', by rw [h1]; rfl, by simp [h', h2], ?_⟩
        have hn : ((a.length : Int) == -1) = false := by rw [beq_eq_false_iff_ne]; omega
        rw [hb, h3]
        simp [hn]
/-- A text's words. -/
def wordsB (s : ByteArray) : List ByteArray := (wordsU (nmL s)).map ofL
/-- Cut at the first blank. -/
theorem cut_words (s : ByteArray) : ((Lib.cut (nmL s) [32]).2.2 = true ∧ wordsB s = ofL (Lib.cut (nmL s) [32]).1 :: wordsB (ofL (Lib.cut (nmL s) [32]).2.1) ∧ (Lib.cut (nmL s) [32]).2.1.length < s.size ∧ (Lib.cut (nmL s) [32]).1.length ≤ s.size) ∨ ((Lib.cut (nmL s) [32]).2.2 = false ∧ wordsB s = [ofL (Lib.cut (nmL s) [32]).1] ∧ (Lib.cut (nmL s) [32]).1.length ≤ s.size ∧ (Lib.cut (nmL s) [32]).2.1.length ≤ s.size) := by
  have hsz : s.size = (nmL s).length := by unfold nmL; rw [Array.length_toList]; rfl
  rcases indexB_spec 32 (nmL s) with ⟨h1, h2⟩ | ⟨a, b, h1, h2, h3⟩
  · have hi : Lib.index (nmL s) [32] = -1 := (Lib.index_one _ _).trans h1
    refine .inr ?_
    unfold Lib.cut
    rw [hi, if_neg (by decide)]
    refine ⟨rfl, ?_, by rw [hsz]; exact Nat.le_refl _, by simp⟩
    unfold wordsB
    rw [wordsU_miss _ h2]; rfl
  · have hi : Lib.index (nmL s) [32] = (a.length : Int) := (Lib.index_one _ _).trans h3
    have hd : (nmL s).drop (a.length + 1) = b := by rw [h1, List.drop_append]; simp
    have ht : (nmL s).take a.length = a := by rw [h1, List.take_left]
    refine .inl ?_
    unfold Lib.cut
    rw [hi, if_pos (by omega)]
    simp only [Int.toNat_natCast, List.length_singleton, ht, hd]
    refine ⟨trivial, ?_, by rw [hsz, h1]; simp; omega, by rw [hsz, h1]; simp⟩
    unfold wordsB
    rw [h1, wordsU_hit _ _ h2, nmL_ofL]; rfl
/-- Are words names, few unlike ones? -/
def okW (ws : List ByteArray) : Bool := ws.all (fun x => nameB (strL x)) && decide ((setS ws).length ≤ 16)
/-- The words of a text that Parse looks at: of none there are none. -/
def textW (s : ByteArray) : List ByteArray := if s.size = 0 then [] else wordsB s
theorem okW_bad {ws : List ByteArray} {x : ByteArray} (h : x ∈ ws) (hx : nameB (strL x) = false) : okW ws = false := by
  unfold okW
  rw [show ws.all (fun x => nameB (strL x)) = false by rw [List.all_eq_false]; exact ⟨x, h, by rw [hx]; simp⟩, Bool.false_and]
theorem okW_many {a b : List ByteArray} (h : 16 < (setS a).length) : okW (a ++ b) = false := by
  have := setS_mono a b
  unfold okW
  rw [decide_eq_false (by omega), Bool.and_false]
theorem okW_good {ws : List ByteArray} (h : ∀ x ∈ ws, nameB (strL x) = true) (hl : (setS ws).length ≤ 16) : okW ws = true := by
  unfold okW
  rw [decide_eq_true hl, Bool.and_true, List.all_eq_true]; exact h
/-- What Parse tells. -/
def parseN (s : ByteArray) : List ByteArray := if okW (textW s) = true then setS (textW s) else []
end Go.Proofs.YtjfgmgkhinehaaaGreatDoor
namespace Go.Proofs.YtjfgmgkhinehaaaGreatDoor
open Go Go.RowKit
theorem ret_boolR {a b : Bool} (h : a = b) : Ending.returned (.bool a) = .returned (.bool b) := by rw [h]
/-- A slice of names of any size. -/
def RawN (w : World) (v : Value) (ns : List ByteArray) : Prop := ∃ A c, v = .slice A ns.length c ∧ ns.length ≤ c ∧ ns.length ≤ 9223372036854775807 ∧ LiesN w A ns
/-- Are names more than are looked at? -/
def greatN (ns : List ByteArray) : Bool := decide (100 < ns.length) || ns.any fun x => decide (1000 < x.size)
set_option maxRecDepth 100000 in
set_option maxHeartbeats 1000000 in
theorem scRefGreat_any (v : Value) (ns : List ByteArray) (w : World) (h : RawN w v ns) :
    Calls Tryz.prog 54 #[v] w fun e w' => e = .returned (.bool (greatN ns)) ∧ w = w' := by
  obtain ⟨A, c, rfl, hc, h9, hl⟩ := h
  obtain ⟨n, hnn⟩ : ∃ n, n = ns.length := ⟨_, rfl⟩
  obtain ⟨R, hR⟩ : ∃ R, R = greatN ns := ⟨_, rfl⟩
  rw [← hR]
  rw [← hnn] at hc h9 ⊢
  have HN := Lib.hid hnn
  have HL := Lib.hid hl
  have HR := Lib.hid hR
  clear hnn hl hR
  by_cases hg : 100 < n
  · have hgI : (100 : Int) < (n : Int) := by omega
    have HT : Hid (R = true) := Lib.hid (by rw [HR.out]; unfold greatN; rw [← HN.out, decide_eq_true hg, Bool.true_or])
    go_enter Tryz.func54, Tryz.ntmps54
    go_wp2
    go_ret
    exact ⟨ret_boolR HT.out.symm, rfl⟩
  · have hgI : ¬ (100 : Int) < (n : Int) := by omega
    have HR2 : Hid (R = ns.any fun x => decide (1000 < x.size)) := Lib.hid (by rw [HR.out]; unfold greatN; rw [← HN.out, decide_eq_false hg, Bool.false_or])
    have hg2 : n ≤ 100 := by omega
    clear hg HR
    go_enter Tryz.func54, Tryz.ntmps54
    go_wp2
    go_loop [3] (fun i => ∃ k : Nat, k ≤ n ∧ i = .int .i64 (k : Int) ∧ R = (ns.drop k).any fun x => decide (1000 < x.size)) (fun i => n - (intOf i).toNat)
    case atStart => exact ⟨0, Nat.zero_le _, rfl, HR2.out⟩
    case round =>
      obtain ⟨k, hk, rfl, hrun⟩ := hrel
      have HRUN := Lib.hid hrun
      clear hrun
      by_cases hlt : k < n
      · have hkl : k < ns.length := by rw [← HN.out]; exact hlt
        obtain ⟨b, o, rfl, _, hcell⟩ := HL.out.at hkl
        have hi0 : (0 : Int) ≤ (k : Int) := by omega
        have HD : Hid (ns.drop k = ns[k] :: ns.drop (k + 1)) := Lib.hid (List.drop_eq_getElem_cons hkl)
        obtain ⟨x, hx⟩ : ∃ x, x = ns[k] := ⟨_, rfl⟩
        rw [← hx] at hcell HD
        clear hx hkl
        by_cases hs : 1000 < x.size
        · have hsI : (1000 : Int) < (x.size : Int) := by omega
          have HT : Hid (R = true) := Lib.hid (by rw [HRUN.out, HD.out, List.any_cons, decide_eq_true hs, Bool.true_or])
          clear hs
          go_wp2
          go_ret
          exact ⟨ret_boolR HT.out.symm, rfl⟩
        · have hsI : ¬ (1000 : Int) < (x.size : Int) := by omega
          have HT : Hid (R = (ns.drop (k + 1)).any fun x => decide (1000 < x.size)) := Lib.hid (by rw [HRUN.out, HD.out, List.any_cons, decide_eq_false hs, Bool.false_or])
          clear hs
          go_wp2
          go_round
          case rel => exact ⟨k + 1, by omega, by go_num, HT.out⟩
          case measure => simp [intOf]; omega
      · obtain rfl : k = n := by omega
        have HT : Hid (R = false) := Lib.hid (by rw [HRUN.out, HN.out, List.drop_length]; rfl)
        clear hlt
        go_wp2
        go_ret
        exact ⟨ret_boolR HT.out.symm, rfl⟩
/-- Are two lists the same? -/
def sameN : List ByteArray → List ByteArray → Bool
  | [], [] => true
  | x :: a, y :: b => (x.toList == y.toList) && sameN a b
  | _, _ => false
theorem sameN_iff : ∀ {a b : List ByteArray}, sameN a b = true ↔ a = b
  | [], [] => by simp [sameN]
  | [], y :: b => by simp [sameN]
  | x :: a, [] => by simp [sameN]
  | x :: a, y :: b => by
    rw [sameN, Bool.and_eq_true, beq_iff_eq, sameN_iff, List.cons.injEq]
    exact ⟨fun ⟨h1, h2⟩ => ⟨toList_inj h1, h2⟩, fun ⟨h1, h2⟩ => ⟨by rw [h1], h2⟩⟩
theorem sameN_len {a b : List ByteArray} (h : a.length ≠ b.length) : sameN a b = false := by
  cases hs : sameN a b with
  | false => rfl
  | true => exact absurd (by rw [sameN_iff.1 hs]) h
theorem sameN_self (a : List ByteArray) : sameN a a = true := sameN_iff.2 rfl
set_option maxRecDepth 100000 in
set_option maxHeartbeats 2000000 in
theorem scRefSame_any (va vb : Value) (a b : List ByteArray) (w : World) (ha : SliceN w va a) (hb : SliceN w vb b) (hn : a.length ≤ 1000000000) (hn2 : b.length ≤ 1000000000) :
    Calls Tryz.prog 40 #[va, vb] w fun e w' => e = .returned (.bool (sameN a b)) ∧ Below w.heap.size w w' := by
  obtain ⟨A, c, rfl, hc, hl, -⟩ := ha
  obtain ⟨A2, c2, rfl, hc2, hl2, -⟩ := hb
  obtain ⟨n, hnn⟩ : ∃ n, n = a.length := ⟨_, rfl⟩
  obtain ⟨m, hmm⟩ : ∃ m, m = b.length := ⟨_, rfl⟩
  obtain ⟨R, hR⟩ : ∃ R, R = sameN a b := ⟨_, rfl⟩
  rw [← hR]
  rw [← hnn] at hc hn ⊢
  rw [← hmm] at hc2 hn2 ⊢
  have HN := Lib.hid hnn
  have HM := Lib.hid hmm
  have HL := Lib.hid hl
  have HL2 := Lib.hid hl2
  have HR := Lib.hid hR
  clear hnn hmm hl hl2 hR
  by_cases hnm : n = m
  · subst hnm
    go_enter Tryz.func40, Tryz.ntmps40
    go_wp2
    go_loopw [5] (fun i wr => ∃ k : Nat, k ≤ n ∧ i = .int .i64 (k : Int) ∧ R = sameN (a.drop k) (b.drop k) ∧ Below w.heap.size w wr) (fun i _ => n - (intOf i).toNat)
    case atStart => exact ⟨0, Nat.zero_le _, rfl, HR.out, Below.refl _ _⟩
    case round =>
      obtain ⟨k, hk, rfl, hrun, hbel⟩ := hrel
      have HRUN := Lib.hid hrun
      have HBE := Lib.hid hbel
      clear hrun hbel
      by_cases hlt : k < n
      · have hkl : k < a.length := by rw [← HN.out]; exact hlt
        have hkl2 : k < b.length := by rw [← HM.out]; exact hlt
        obtain ⟨b1, o1, rfl, _, hcell⟩ := (HL.out.below HBE.out).at hkl
        obtain ⟨b2, o2, rfl, _, hcell2⟩ := (HL2.out.below HBE.out).at hkl2
        have hi0 : (0 : Int) ≤ (k : Int) := by omega
        have HD : Hid (a.drop k = a[k] :: a.drop (k + 1)) := Lib.hid (List.drop_eq_getElem_cons hkl)
        have HD2 : Hid (b.drop k = b[k] :: b.drop (k + 1)) := Lib.hid (List.drop_eq_getElem_cons hkl2)
        obtain ⟨x, hx⟩ : ∃ x, x = a[k] := ⟨_, rfl⟩
        obtain ⟨y, hy⟩ : ∃ x, x = b[k] := ⟨_, rfl⟩
        rw [← hx] at hcell HD
        rw [← hy] at hcell2 HD2
        clear hx hkl hy hkl2
        cases he : (x.toList == y.toList) with
        | true =>
          have HT : Hid (R = sameN (a.drop (k + 1)) (b.drop (k + 1))) := Lib.hid (by rw [HRUN.out, HD.out, HD2.out, sameN, he, Bool.true_and])
          go_wp2
          go_region_held3 (fun W => Below wr.heap.size wr W ∧ W.cell? ⟨b1, o1 + k, none⟩ = some (.string x) ∧ W.cell? ⟨b2, o2 + k, none⟩ = some (.string y))
            (first
              | exact ⟨(Below.refl _ _).drew, hcell, hcell2⟩
              | go_keep)
            (fail)
          all_goals
            go_wp2
            go_roundw
            case rel => exact ⟨k + 1, by omega, by go_num, HT.out, HBE.out.drew⟩
            case measure => simp [intOf]; omega
        | false =>
          have HT : Hid (R = false) := Lib.hid (by rw [HRUN.out, HD.out, HD2.out, sameN, he, Bool.false_and])
          go_wp2
          go_region_held3 (fun W => Below wr.heap.size wr W ∧ W.cell? ⟨b1, o1 + k, none⟩ = some (.string x) ∧ W.cell? ⟨b2, o2 + k, none⟩ = some (.string y))
            (first
              | exact ⟨(Below.refl _ _).drew, hcell, hcell2⟩
              | go_keep)
            (fail)
          all_goals
            go_wp2
            go_ret
            exact ⟨ret_boolR HT.out.symm, HBE.out.drew⟩
      · obtain rfl : k = n := by omega
        have HT : Hid (R = true) := Lib.hid (by rw [HRUN.out, HN.out, List.drop_length, ← HN.out, HM.out, List.drop_length]; rfl)
        clear hlt
        go_wp2
        go_ret
        exact ⟨ret_boolR HT.out.symm, HBE.out⟩
  · have HT : Hid (R = false) := Lib.hid (by rw [HR.out]; exact sameN_len (by rw [← HN.out, ← HM.out]; exact hnm))
    have hq : ((n : Int) == (m : Int)) = false := by rw [beq_eq_false_iff_ne]; omega
    clear hnm
    go_enter Tryz.func40, Tryz.ntmps40
    go_wp2
    go_ret
    exact ⟨ret_boolR HT.out.symm, Below.refl _ _⟩
theorem infoStrR : (Tryz.prog.info? 9).map (fun i => (i.zero, i.size, i.bytes)) = some (some (.string ByteArray.empty), 1, 16) := by kernel_rfl
theorem cell_litR (w : World) (x : ByteArray) (t : TypeId) : ∀ j u, [Value.string x][j]? = some u → (w.alloc (.cells #[.string x] t)).cell? ((⟨w.heap.size, 0, none⟩ : Addr).add j) = some u := fun j u hj => by
  match j, hj with
  | 0, hj => simp at hj; subst hj; simp [Addr.add]
set_option maxRecDepth 100000 in
set_option maxHeartbeats 1000000 in
theorem refHas_any (v : Value) (ns : List ByteArray) (x : ByteArray) (w : World) (h : SliceN w v ns) (hn : ns.length ≤ 1000000000) :
    Calls Tryz.prog 78 #[v, .string x] w fun e w' => e = .returned (.bool (hasN ns x)) ∧ w = w' := by
  obtain ⟨A, c, rfl, hc, hl, -⟩ := h
  obtain ⟨n, hnn⟩ : ∃ n, n = ns.length := ⟨_, rfl⟩
  obtain ⟨R, hR⟩ : ∃ R, R = hasN ns x := ⟨_, rfl⟩
  rw [← hR]
  rw [← hnn] at hc hn ⊢
  have HN := Lib.hid hnn
  have HL := Lib.hid hl
  have HR := Lib.hid hR
  clear hnn hl hR
  go_enter Tryz.func78, Tryz.ntmps78
  go_wp2
  go_loop [5] (fun i => ∃ k : Nat, k ≤ n ∧ i = .int .i64 (k : Int) ∧ R = hasN (ns.drop k) x) (fun i => n - (intOf i).toNat)
  case atStart => exact ⟨0, Nat.zero_le _, rfl, HR.out⟩
  case round =>
    obtain ⟨k, hk, rfl, hrun⟩ := hrel
    have HRUN := Lib.hid hrun
    clear hrun
    by_cases hlt : k < n
    · have hkl : k < ns.length := by rw [← HN.out]; exact hlt
      obtain ⟨b, o, rfl, _, hcell⟩ := HL.out.at hkl
      have hi0 : (0 : Int) ≤ (k : Int) := by omega
      have HD : Hid (ns.drop k = ns[k] :: ns.drop (k + 1)) := Lib.hid (List.drop_eq_getElem_cons hkl)
      obtain ⟨y, hy⟩ : ∃ x, x = ns[k] := ⟨_, rfl⟩
      rw [← hy] at hcell HD
      clear hy hkl
      cases he : (y.toList == x.toList) with
      | true =>
        have HT : Hid (R = true) := Lib.hid (by rw [HRUN.out, HD.out, hasN_cons, he, Bool.true_or])
        go_wp2
        go_ret
        exact ⟨ret_boolR HT.out.symm, rfl⟩
      | false =>
        have HT : Hid (R = hasN (ns.drop (k + 1)) x) := Lib.hid (by rw [HRUN.out, HD.out, hasN_cons, he, Bool.false_or])
        go_wp2
        go_round
        case rel => exact ⟨k + 1, by omega, by go_num, HT.out⟩
        case measure => simp [intOf]; omega
    · obtain rfl : k = n := by omega
      have HT : Hid (R = false) := Lib.hid (by rw [HRUN.out, HN.out, List.drop_length]; rfl)
      clear hlt
      go_wp2
      go_ret
      exact ⟨ret_boolR HT.out.symm, rfl⟩
theorem insG_drop {l : List ByteArray} {k : Nat} (x : ByteArray) (d : Bool) (h : k < l.length) : insG x d (l.drop k) = (if d = false ∧ ltS x l[k] = true then [x] else []) ++ l[k] :: insG x (d || ltS x l[k]) (l.drop (k + 1)) := by
  rw [List.drop_eq_getElem_cons h, insG]
end Go.Proofs.YtjfgmgkhinehaaaGreatDoor
namespace Go.Proofs.YtjfgmgkhinehaaaGreatDoor
open Go Go.RowKit
theorem ins_end (x : ByteArray) (d : Bool) : insG x d [] = if d then [] else [x] := by rw [insG]
theorem sub_insG {x : ByteArray} {xs l r : List ByteArray} (h : xs ++ r = insG x false l) (ho : NmOk l) (hx : x.size ≤ 1000000000) : NmOk xs := fun z hz => by
  have : z ∈ insG x false l := by rw [← h]; exact List.mem_append_left _ hz
  rcases (mem_insG x l z).1 this with rfl | h2
  · exact hx
  · exact ho z h2
set_option maxRecDepth 100000 in
set_option maxHeartbeats 4000000 in
theorem scRefPut_any (v : Value) (ns : List ByteArray) (x : ByteArray) (w : World) (h : SliceN w v ns) (hn : ns.length ≤ 1000000) (hx : x.size ≤ 1000000000) :
    Calls Tryz.prog 79 #[v, .string x] w fun e w' => ∃ u, e = .returned u ∧ SliceN w' u (putS ns x) ∧ Below w.heap.size w w' := by
  have H0 := Lib.hid h
  have HHAS := Lib.hid (refHas_any v ns x w h (by omega))
  cases hh : hasN ns x with
  | true =>
    have HP : Hid (putS ns x = ns) := Lib.hid (by unfold putS; rw [if_pos hh])
    rw [hh] at HHAS
    rw [HP.out]
    clear h hh
    go_enter Tryz.func79, Tryz.ntmps79
    go_wp2_with (go_at_call 78; (with_reducible refine HHAS.out.mono ?_); rintro e w' ⟨rfl, rfl⟩)
    go_ret
    exact ⟨_, rfl, H0.out, Below.refl _ _⟩
  | false =>
    obtain ⟨T, hT⟩ : ∃ T, T = insG x false ns := ⟨_, rfl⟩
    have HP : Hid (putS ns x = T) := Lib.hid (by unfold putS; rw [if_neg (by rw [hh]; simp), hT])
    have HT := Lib.hid hT
    have HNOT : Hid (∀ y ∈ ns, y ≠ x) := Lib.hid (fun y hy e => hasN_not.1 hh (e ▸ hy))
    rw [hh] at HHAS
    rw [HP.out]
    obtain ⟨A, c, rfl, hc, hl, hok⟩ := h
    obtain ⟨n, hnn⟩ : ∃ n, n = ns.length := ⟨_, rfl⟩
    rw [← hnn] at hc hn HHAS ⊢
    have HN := Lib.hid hnn
    have HL := Lib.hid hl
    have HOK := Lib.hid hok
    have HTL : Hid (T.length = n + 1) := Lib.hid (by rw [hT, length_insG, hnn])
    obtain ⟨iS, hS0, hS1, hS2, hS3⟩ := info_parts infoStrR
    clear hh hT hl hok hnn H0 HP
    go_enter Tryz.func79, Tryz.ntmps79
    go_wp2_with (go_at_call 78; (with_reducible refine HHAS.out.mono ?_); rintro e w' ⟨rfl, rfl⟩)
    go_loopw [5, 6, 7] (fun ov dv i wr => ∃ (k q : Nat) (d : Bool) (xs : List ByteArray), k ≤ n ∧ i = .int .i64 (k : Int) ∧ dv = .bool d ∧ xs ++ insG x d (ns.drop k) = T ∧ (d = false → q ≤ k) ∧ q ≤ k + 1 ∧ wr.ownsRow w.heap.size 9 1 ov q (strV xs) ∧ Below w.heap.size w wr) (fun _ _ i _ => n - (intOf i).toNat)
    case atStart => exact ⟨0, 0, false, [], Nat.zero_le _, rfl, rfl, HT.out.symm, fun _ => Nat.le_refl _, by omega, World.ownsRow_nil _ _ _ _, Below.refl _ _⟩
    case round =>
      clear HHAS
      obtain ⟨k, q, d, xs, hk, rfl, rfl, hrun, hqd, hq, hown, hbel⟩ := hrel
      have HQD := Lib.hid hqd
      clear hqd
      have HRUN := Lib.hid hrun
      have HOW := Lib.hid hown
      have HBE := Lib.hid hbel
      have hs0 := hbel.size
      clear hrun hown hbel
      by_cases hlt : k < n
      · have hkl : k < ns.length := by rw [← HN.out]; exact hlt
        obtain ⟨b, o, rfl, hbl, hcell0⟩ := HL.out.at hkl
        have hcell := (HBE.out.cell (p := ⟨b, o + k, none⟩) hbl).trans hcell0
        have hi0 : (0 : Int) ≤ (k : Int) := by omega
        have hne := HNOT.out _ (List.getElem_mem hkl)
        have HST := Lib.hid (insG_drop x d hkl)
        obtain ⟨y, hy⟩ : ∃ z, z = ns[k] := ⟨_, rfl⟩
        rw [← hy] at hcell HST hne hcell0
        have HC0 := Lib.hid hcell0
        have HBL := Lib.hid hbl
        clear hcell0 hbl
        clear hy hkl
        cases hd : d with
        | true =>
          have HR2 : Hid ((xs ++ [y]) ++ insG x true (ns.drop (k + 1)) = T) := Lib.hid (by rw [← HRUN.out, HST.out, hd]; simp)
          subst hd
          clear hne HRUN HST
          go_wp2_with (at_builtin; refine wpList_append_own _ rfl _ _ 22 rfl w.heap.size 9 iS (.string ByteArray.empty) 1 16 Tryz.underlying22 hS0 hS1 hS2 hS3 rfl (by decide) _ q _ rfl (HOW.out.alloc _) ⟨wr.heap.size, 0, none⟩ 1 1 [.string y] rfl rfl (cell_litR _ _ _) (by simp [Value.oneCell']) (by unfold maxLen; omega) (by omega) (by simp; omega) ?_; intro v4 w4 hown4 hgrow4 hnil4)
          have HO5 : Hid (w4.ownsRow w.heap.size 9 1 v4 (q + 1) (strV (xs ++ [y]))) := Lib.hid (by rw [strV_append]; exact hown4)
          have HB5 := Lib.hid ((HBE.out.alloc hs0 (.cells #[.string y] 9)).grown hgrow4 (by simp; omega) (fun i hi => (HOW.out.lt i hi).1))
          clear hown4 hgrow4 hnil4
          go_roundw
          case rel => exact ⟨k + 1, q + 1, true, xs ++ [y], by omega, by go_num, rfl, HR2.out, (by intro h; cases h), by omega, HO5.out, HB5.out⟩
          case measure => simp [intOf]; omega
        | false =>
          subst hd
          cases hlx : ltS x y with
          | false =>
            have hb1 : Op.bytesLess y.toList x.toList = true := ltS_total (fun e => hne e.symm) hlx
            have HR2 : Hid ((xs ++ [y]) ++ insG x false (ns.drop (k + 1)) = T) := Lib.hid (by rw [← HRUN.out, HST.out, hlx]; simp)
            clear hne HRUN HST hlx
            go_wp2_with (at_builtin; refine wpList_append_own _ rfl _ _ 22 rfl w.heap.size 9 iS (.string ByteArray.empty) 1 16 Tryz.underlying22 hS0 hS1 hS2 hS3 rfl (by decide) _ q _ rfl (HOW.out.alloc _) ⟨wr.heap.size, 0, none⟩ 1 1 [.string y] rfl rfl (cell_litR _ _ _) (by simp [Value.oneCell']) (by unfold maxLen; omega) (by omega) (by simp; omega) ?_; intro v4 w4 hown4 hgrow4 hnil4)
            have HO5 : Hid (w4.ownsRow w.heap.size 9 1 v4 (q + 1) (strV (xs ++ [y]))) := Lib.hid (by rw [strV_append]; exact hown4)
            have HB5 := Lib.hid ((HBE.out.alloc hs0 (.cells #[.string y] 9)).grown hgrow4 (by simp; omega) (fun i hi => (HOW.out.lt i hi).1))
            clear hown4 hgrow4 hnil4
            go_roundw
            case rel => exact ⟨k + 1, q + 1, false, xs ++ [y], by omega, by go_num, rfl, HR2.out, (by intro _; have := HQD.out rfl; omega), by omega, HO5.out, HB5.out⟩
            case measure => simp [intOf]; omega
          | true =>
            have hb1 : Op.bytesLess y.toList x.toList = false := ltS_asymm hlx
            have hb2 : (y.toList == x.toList) = false := by rw [beq_eq_false_iff_ne]; exact fun e => hne (toList_inj e)
            have HR2 : Hid (((xs ++ [x]) ++ [y]) ++ insG x true (ns.drop (k + 1)) = T) := Lib.hid (by rw [← HRUN.out, HST.out, hlx]; simp)
            have HQ : Hid (q ≤ k) := Lib.hid (HQD.out rfl)
            clear hne HRUN HST hlx
            have tok1 : True := trivial
            go_wp2_with (first
              | (at_builtin; have _t := tok1; refine wpList_append_own _ rfl _ _ 22 rfl w.heap.size 9 iS (.string ByteArray.empty) 1 16 Tryz.underlying22 hS0 hS1 hS2 hS3 rfl (by decide) _ q _ rfl (HOW.out.alloc _) ⟨wr.heap.size, 0, none⟩ 1 1 [.string x] rfl rfl (cell_litR _ _ _) (by simp [Value.oneCell']) (by unfold maxLen; omega) (by omega) (by simp; omega) ?_; intro v4 w4 hown4 hgrow4 hnil4; clear tok1; have HO4 : Hid (w4.ownsRow w.heap.size 9 1 v4 (q + 1) (strV (xs ++ [x]))) := Lib.hid (by rw [strV_append]; exact hown4); have HB4 := Lib.hid ((HBE.out.alloc hs0 (.cells #[.string x] 9)).grown hgrow4 (by simp; omega) (fun i hi => (HOW.out.lt i hi).1)); have hs4 := HB4.out.size; have hcell4 := (HB4.out.cell (p := ⟨b, o + k, none⟩) HBL.out).trans HC0.out; clear hown4 hgrow4 hnil4)
              | (at_builtin; refine wpList_append_own _ rfl _ _ 22 rfl w.heap.size 9 iS (.string ByteArray.empty) 1 16 Tryz.underlying22 hS0 hS1 hS2 hS3 rfl (by decide) _ (q + 1) _ rfl (HO4.out.alloc _) ⟨w4.heap.size, 0, none⟩ 1 1 [.string y] rfl rfl (cell_litR _ _ _) (by simp [Value.oneCell']) (by unfold maxLen; omega) (by omega) (by simp; omega) ?_; intro v6 w6 hown6 hgrow6 hnil6))
            have HO5 : Hid (w6.ownsRow w.heap.size 9 1 v6 (q + 2) (strV ((xs ++ [x]) ++ [y]))) := Lib.hid (by rw [strV_append]; exact hown6)
            have HB5 := Lib.hid ((HB4.out.alloc hs4 (.cells #[.string y] 9)).grown hgrow6 (by simp; omega) (fun i hi => (HO4.out.lt i hi).1))
            clear hown6 hgrow6 hnil6
            have hq2 := HQ.out
            go_roundw
            case rel => exact ⟨k + 1, q + 2, true, (xs ++ [x]) ++ [y], by omega, by go_num, rfl, HR2.out, (by intro h; cases h), by omega, HO5.out, HB5.out⟩
            case measure => simp [intOf]; omega
      · obtain rfl : k = n := by omega
        have HDR : Hid (ns.drop k = []) := Lib.hid (by rw [HN.out]; exact List.drop_length)
        rw [HDR.out, ins_end] at HRUN
        clear hlt
        cases hd : d with
        | true =>
          subst hd
          have HR2 : Hid (xs = T) := Lib.hid (by rw [← HRUN.out]; simp)
          rw [HR2.out] at HOW
          have HOKT : Hid (NmOk T) := Lib.hid (sub_insG (r := []) (by rw [List.append_nil]; exact HT.out) HOK.out hx)
          go_wp2
          go_ret
          exact ⟨_, rfl, SliceN.own HOW.out HOKT.out, HBE.out⟩
        | false =>
          subst hd
          have HR2 : Hid (xs ++ [x] = T) := Lib.hid (by rw [← HRUN.out]; simp)
          have HOKT : Hid (NmOk T) := Lib.hid (sub_insG (r := []) (by rw [List.append_nil]; exact HT.out) HOK.out hx)
          go_wp2_with (at_builtin; refine wpList_append_own _ rfl _ _ 22 rfl w.heap.size 9 iS (.string ByteArray.empty) 1 16 Tryz.underlying22 hS0 hS1 hS2 hS3 rfl (by decide) _ q _ rfl (HOW.out.alloc _) ⟨wr.heap.size, 0, none⟩ 1 1 [.string x] rfl rfl (cell_litR _ _ _) (by simp [Value.oneCell']) (by unfold maxLen; omega) (by omega) (by simp; omega) ?_; intro v4 w4 hown4 hgrow4 hnil4)
          have HO5 : Hid (w4.ownsRow w.heap.size 9 1 v4 (q + 1) (strV T)) := Lib.hid (by rw [← HR2.out, strV_append]; exact hown4)
          have HB5 := Lib.hid ((HBE.out.alloc hs0 (.cells #[.string x] 9)).grown hgrow4 (by simp; omega) (fun i hi => (HOW.out.lt i hi).1))
          clear hown4 hgrow4 hnil4
          go_ret
          exact ⟨_, rfl, SliceN.own HO5.out HOKT.out, HB5.out⟩
end Go.Proofs.YtjfgmgkhinehaaaGreatDoor
