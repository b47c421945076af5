/- A law's argument that is a slice of strings, opened to what the walks of layer 7 ask. -/
import Derived.Test.YtapalkipdmdceaaDoorScRef
import Derived.Deep.Slices
import Derived.Deep.Fields
import Derived.ChangeSame
import Derived.Carry
namespace Go.Proofs.YtapalkipdmdceaaDoor
open Go Go.RowKit Go.ChangeShapes Go.WideShapes Go.Deep

section
variable {H : Type} {enc : TypeId × Value → H} {w : World} {base : Nat} {sp : Nat → Bool} {held : Bool}
theorem sized_strS : Tryd.prog.cellsOf 9 = 1 := by kernel_rfl
theorem trod_strs {fuel : Nat} {cs : List Value} {x : DataW H × List MemPlace} (h : DataW.trod enc Tryd.prog w base sp held fuel 23 cs = some x) : ∃ v ns, cs = [v] ∧ RawN w v ns := by
  rcases open_slice Tryd.underlying23 h with ⟨rfl, _⟩ | ⟨a, len, cap, m, n, D, Pl, rfl, _, hl, hm, hmm, _, hi⟩
  · exact ⟨_, [], rfl, none, 0, rfl, Nat.le_refl _, by simp, .none _ _⟩
  · have hlm : len ≤ m := by rw [hmm]; split <;> omega
    have hstr : ∀ i, i < len → ∃ s : ByteArray, w.cell? (a.add i) = some (.string s) := fun i hil => by
      obtain ⟨cs', hc, ht⟩ := hi i (by omega)
      rw [sized_strS, Nat.mul_one] at hc
      obtain ⟨s, rfl, _, hs⟩ := DataW.trod_string Tryd.underlying9 ht
      obtain ⟨_, _, hcell⟩ := World.cells?_some hc
      have h0 := hcell 0 (by omega)
      rw [Go.Deep.add_add, Nat.add_zero] at h0
      exact ⟨s, h0⟩
    refine ⟨_, List.ofFn fun i : Fin len => (hstr i.val i.isLt).choose, rfl, some a, cap, by rw [List.length_ofFn], by rw [List.length_ofFn]; exact hl, by rw [List.length_ofFn]; unfold maxLen at hm; omega, fun hne => ?_⟩
    have hp : 0 < len := Nat.pos_of_ne_zero fun e => by subst e; exact hne rfl
    obtain ⟨b, o, spot⟩ := a
    obtain ⟨q, hq0⟩ := hstr 0 hp
    have hspot : spot = none := by simpa [Addr.add] using World.cell?_spot hq0
    subst hspot
    refine ⟨b, o, rfl, lt_of_cell (by rw [Addr.add_mid] at hq0; exact hq0), fun i x hi2 => ?_⟩
    obtain ⟨hil, he⟩ := List.getElem?_eq_some_iff.1 hi2
    rw [List.length_ofFn] at hil
    rw [List.getElem_ofFn] at he
    have hs := (hstr i hil).choose_spec
    rw [he, Addr.add_mid] at hs
    exact hs
set_option maxRecDepth 100000 in
theorem open_strsS {r : Reach} {b0 : Nat} {v : Value} {d : DataW H} {p : List MemPlace} (hv : Value.okWide Tryd.prog w r b0 23 v) (h : DataW.Trod enc Tryd.prog w base sp held 23 v d p) : ∃ k, RawN w v k := by
  obtain ⟨a0, len, cap, rfl⟩ := okWide_slice Tryd.underlying23 hv
  obtain ⟨fuel, hf⟩ := h
  obtain ⟨v, k, e, h1⟩ := trod_strs hf
  refine ⟨k, ?_⟩
  have e2 : Value.slice a0 len cap = v := by simpa [Value.cells] using e
  rw [e2]; exact h1
end
end Go.Proofs.YtapalkipdmdceaaDoor
