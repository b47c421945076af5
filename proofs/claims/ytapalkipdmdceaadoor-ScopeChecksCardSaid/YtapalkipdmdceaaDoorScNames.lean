/- Lists of names where they lie in memory. -/
import Derived.Test.YtapalkipdmdceaaDoorScMath
import Derived.Maps.OwnSet
import Derived.Lib.OwnBridge
import Derived.Sort.OwnSorted
namespace Go.Proofs.YtapalkipdmdceaaDoor
open Go Go.RowKit

/-- Names that lie one behind the other. -/
def LiesN (w : World) (A : Option Addr) (ns : List ByteArray) : Prop := ns ≠ [] → ∃ b o, A = some ⟨b, o, none⟩ ∧ b < w.heap.size ∧ ∀ i x, ns[i]? = some x → w.cell? ⟨b, o + i, none⟩ = some (.string x)
theorem LiesN.none (w : World) (A : Option Addr) : LiesN w A [] := fun h => absurd rfl h
theorem LiesN.below {w w' : World} {A : Option Addr} {ns : List ByteArray} (h : LiesN w A ns) (hb : Below w.heap.size w w') : LiesN w' A ns := fun hp => by
  obtain ⟨b, o, e, hlt, hc⟩ := h hp
  exact ⟨b, o, e, Nat.lt_of_lt_of_le hlt hb.size, fun i x hi => (hb.cell (p := ⟨b, o + i, Option.none⟩) hlt).trans (hc i x hi)⟩
theorem LiesN.at {w : World} {A : Option Addr} {ns : List ByteArray} (h : LiesN w A ns) {i : Nat} (hi : i < ns.length) : ∃ b o, A = some ⟨b, o, Option.none⟩ ∧ b < w.heap.size ∧ w.cell? ⟨b, o + i, Option.none⟩ = some (.string ns[i]) := by
  obtain ⟨b, o, e, hlt, hc⟩ := h (by intro h0; rw [h0] at hi; exact absurd hi (by simp))
  exact ⟨b, o, e, hlt, hc i _ (List.getElem?_eq_getElem hi)⟩
/-- How long a name may be where it is looked at. -/
def NmOk (ns : List ByteArray) : Prop := ∀ x ∈ ns, x.size ≤ 1000000000
theorem NmOk.nil : NmOk [] := fun _ h => by cases h
theorem NmOk.sub {a b : List ByteArray} (h : NmOk b) (hs : ∀ x ∈ a, x ∈ b) : NmOk a := fun x hx => h x (hs x hx)
/-- A slice whose names are these. -/
def SliceN (w : World) (v : Value) (ns : List ByteArray) : Prop := ∃ A c, v = .slice A ns.length c ∧ ns.length ≤ c ∧ LiesN w A ns ∧ NmOk ns
theorem SliceN.below {w w' : World} {v : Value} {ns : List ByteArray} (h : SliceN w v ns) (hb : Below w.heap.size w w') : SliceN w' v ns := by
  obtain ⟨A, c, e, hc, hl, ho⟩ := h
  exact ⟨A, c, e, hc, hl.below hb, ho⟩
theorem SliceN.ok {w : World} {v : Value} {ns : List ByteArray} (h : SliceN w v ns) : NmOk ns := by
  obtain ⟨A, c, e, hc, hl, ho⟩ := h; exact ho
theorem SliceN.nil (w : World) : SliceN w (.slice none 0 0) [] := ⟨none, 0, rfl, Nat.le_refl _, .none _ _, .nil⟩
/-- The values of names. -/
def strV (ns : List ByteArray) : List Value := ns.map Value.string
theorem strV_append (a b : List ByteArray) : strV (a ++ b) = strV a ++ strV b := by simp [strV]
theorem length_strV (a : List ByteArray) : (strV a).length = a.length := by simp [strV]
theorem strV_enc (ns : List ByteArray) : strV ns = (ns.map nmL).map encStr := by
  unfold strV nmL
  rw [Lib.map_encStr]
/-- A row of a call's own is such a slice. -/
theorem SliceN.own {w : World} {B e n : Nat} {v : Value} {ns : List ByteArray} (h : w.ownsRow B e 1 v n (strV ns)) (ho : NmOk ns) : SliceN w v ns := by
  have hn : ns.length = n := by have := h.1; rw [length_strV] at this; omega
  subst hn
  have h0 := h
  rcases h.2 with ⟨rfl, h1⟩ | ⟨g, cap, cur, rfl, hb, hcell, hle, hm, _⟩
  · have : ns = [] := List.eq_nil_of_length_eq_zero h1
    subst this
    exact .nil w
  · refine ⟨_, cap, rfl, hle, fun hp => ⟨g, 0, rfl, (h0.lt g rfl).2, fun i x hi => ?_⟩, ho⟩
    have hj := (List.getElem?_eq_some_iff.1 hi).1
    rw [Nat.zero_add, h0.cellAt i (by simpa using hj)]
    simp [strV, hi]
/-- Lists of names that lie one behind the other. -/
def LiesLs (w : World) (lb : Nat) (ls : List (Value × List ByteArray)) : Prop := ∀ i v ns, ls[i]? = some (v, ns) → w.cell? ⟨lb, i, none⟩ = some v ∧ SliceN w v ns
theorem LiesLs.below {w w' : World} {lb : Nat} {ls : List (Value × List ByteArray)} (h : LiesLs w lb ls) (hb : Below w.heap.size w w') (hl : lb < w.heap.size) : LiesLs w' lb ls := fun i v ns hi => by
  obtain ⟨h1, h2⟩ := h i v ns hi
  exact ⟨(hb.cell (p := ⟨lb, i, none⟩) hl).trans h1, h2.below hb⟩
/-- All their names. -/
def flatN (ls : List (Value × List ByteArray)) : List ByteArray := ls.flatMap (·.2)
theorem flatN_take {ls : List (Value × List ByteArray)} {k : Nat} {v : Value} {ns : List ByteArray} (h : ls[k]? = some (v, ns)) : flatN (ls.take (k + 1)) = flatN (ls.take k) ++ ns := by
  obtain ⟨hk, e⟩ := List.getElem?_eq_some_iff.1 h
  rw [List.take_succ_eq_append_getElem hk, e]
  simp [flatN]
theorem flatN_le {ls : List (Value × List ByteArray)} {k : Nat} {v : Value} {ns : List ByteArray} (h : ls[k]? = some (v, ns)) : (flatN (ls.take k)).length + ns.length ≤ (flatN ls).length := by
  have e := flatN_take h
  have h2 : flatN ls = flatN (ls.take (k + 1)) ++ flatN (ls.drop (k + 1)) := by
    unfold flatN
    rw [← List.flatMap_append, List.take_append_drop]
  rw [h2, e]
  simp
end Go.Proofs.YtapalkipdmdceaaDoor
