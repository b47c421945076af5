/- LxOpen: merged. -/
import Derived.Deep.Slices
import Derived.Deep.Fields
import Derived.ChangeSame
import Derived.Carry
import Derived.OpenShut
import Derived.Test.YtljdnjidphmkjaaDoorLx40
set_option linter.all false
namespace Go.Proofs.YtljdnjidphmkjaaDoor
open Go Go.RowKit Go.ChangeShapes Go.WideShapes Go.Deep
section
variable {H : Type} {enc : TypeId × Value → H} {P : Program} {w : World} {base : Nat} {spare : Nat → Bool} {held : Bool}
/-- A slice of structs of one-cell fields, its cells and their readings. -/
theorem open_fields {t e : TypeId} {fs : Array Field} {fuel : Nat} {cs : List Value} {x : DataW H × List MemPlace} (ht : P.underlying t = some (.slice e)) (he : P.underlying e = some (.struct fs))
    (hone : oneCellFields P fs = true) (hC : P.cellsOf e = fs.size) (h : DataW.trod enc P w base spare held fuel t cs = some x) :
    (cs = [.slice none 0 0]) ∨
    ∃ (a : Addr) (len cap m : Nat), cs = [.slice (some a) len cap] ∧ len ≤ cap ∧ cap ≤ maxLen ∧ len ≤ m ∧
      ∀ i, i < m → ∀ (j : Nat) (f : Field), fs[j]? = some f → ∃ (v : Value) (y : DataW H × List MemPlace) (n : Nat), w.cell? (a.add (i * fs.size + j)) = some v ∧ DataW.trod enc P w base spare held n f.type [v] = some y := by
  rcases open_slice ht h with h0 | ⟨a, len, cap, m, n, D, Pl, hcs, hb, hl, hm, hmm, hx, hi⟩
  · exact .inl h0.1
  · refine .inr ⟨a, len, cap, m, hcs, hl, hm, by rw [hmm]; split <;> omega, fun i him j f hj => ?_⟩
    obtain ⟨cs', hc, ht'⟩ := hi i him
    rw [hC] at hc
    obtain ⟨ys, n', hn', hy, hlen, hyl, hf⟩ := DataW.trod_struct he ht'
    obtain ⟨_, hcl, hat⟩ := World.cells?_some hc
    obtain ⟨ho, hk⟩ := hone_of hone j f hj
    have hjl : j < fs.size := (Array.getElem?_eq_some_iff.1 hj).1
    have hcell := hat j hjl
    have hv : cs'[j]? = some (cs'[j]'(by omega)) := List.getElem?_eq_getElem (by omega)
    have h1 := hf j f hj
    rw [ho, hk] at h1
    have hone' : (cs'.drop j).take 1 = [cs'[j]'(by omega)] := by
      rw [List.drop_eq_getElem_cons (by omega)]
      rfl
    rw [hone'] at h1
    have hys : ys[j]? = some (ys[j]'(by omega)) := List.getElem?_eq_getElem (by omega)
    refine ⟨_, _, n', ?_, h1.trans hys⟩
    rw [← Go.Deep.add_add, hcell, hv]
end
theorem i64_bd {n : Int} (h : (Lit.int .i64 n).wf = true) : -9223372036854775808 ≤ n ∧ n ≤ 9223372036854775807 := by
  unfold Lit.wf at h
  rw [Bool.and_eq_true] at h
  exact ⟨of_decide_eq_true h.1, of_decide_eq_true h.2⟩
set_option maxRecDepth 100000 in
/-- A law's slice of tokens. -/
theorem open_toks {H : Type} {enc : TypeId × Value → H} {w : World} {base b0 : Nat} {r : Reach} {sp : Nat → Bool} {held : Bool} {v : Value} {d : DataW H} {p : List MemPlace} (hv : Value.okWide Tryd.prog w r b0 23 v) (h : DataW.Trod enc Tryd.prog w base sp held 23 v d p) :
    ∃ A n c, ∃ ts : List TokM, v = .slice A n c ∧ ts.length = n ∧ n ≤ c ∧ n ≤ 9223372036854775807 ∧ TokOk ts ∧ ToksAt w A ts := by
  obtain ⟨a0, len, cap, rfl⟩ := okWide_slice Tryd.underlying23 hv
  obtain ⟨fuel, hf⟩ := h
  rcases open_fields Tryd.underlying23 Tryd.underlying34 (by kernel_rfl) (by kernel_rfl) hf with hcs | ⟨a, len', cap', m, hcs, hl, hm, hlm, hi⟩
  · simp [Value.cells] at hcs
    obtain ⟨rfl, rfl, rfl⟩ := hcs
    exact ⟨none, 0, 0, [], rfl, rfl, Nat.le_refl _, by omega, (fun k hk => by cases hk), ToksAt.nil _ _⟩
  · simp [Value.cells] at hcs
    obtain ⟨rfl, rfl, rfl⟩ := hcs
    have hstr : ∀ i, i < len → ∃ t : TokM, (w.cell? (a.add (i * 4)) = some (.int .i64 t.kind) ∧ w.cell? (a.add (i * 4 + 1)) = some (.string t.text) ∧ w.cell? (a.add (i * 4 + 2)) = some (.int .i64 t.num) ∧ w.cell? (a.add (i * 4 + 3)) = some (.int .i64 t.pos)) ∧ t.text.size ≤ 9223372036854775807 ∧ -9223372036854775808 ≤ t.num ∧ t.num ≤ 9223372036854775807 := fun i hil => by
      obtain ⟨v0, y0, n0, c0, t0⟩ := hi i (by omega) 0 _ rfl
      obtain ⟨v1, y1, n1, c1, t1⟩ := hi i (by omega) 1 _ rfl
      obtain ⟨v2, y2, n2, c2, t2⟩ := hi i (by omega) 2 _ rfl
      obtain ⟨v3, y3, n3, c3, t3⟩ := hi i (by omega) 3 _ rfl
      obtain ⟨k0, e0, _, z0⟩ := DataW.trod_int Tryd.underlying3 t0
      obtain ⟨s1, e1, _, z1⟩ := DataW.trod_string Tryd.underlying9 t1
      obtain ⟨k2, e2, _, z2⟩ := DataW.trod_int Tryd.underlying2 t2
      obtain ⟨k3, e3, _, z3⟩ := DataW.trod_int Tryd.underlying3 t3
      simp at e0 e1 e2 e3
      subst e0; subst e1; subst e2; subst e3
      unfold maxLen at z1
      exact ⟨⟨k0, s1, k2, k3⟩, ⟨c0, c1, c2, c3⟩, by show s1.size ≤ _; omega, i64_bd z2⟩
    refine ⟨some a, len, cap, List.ofFn fun i : Fin len => (hstr i.val i.isLt).choose, rfl, by simp, hl, by unfold maxLen at hm; omega, fun k hk => ?_, fun hne => ?_⟩
    · obtain ⟨i, hi3, rfl⟩ := List.getElem_of_mem hk
      rw [List.length_ofFn] at hi3
      rw [List.getElem_ofFn]
      exact (hstr i hi3).choose_spec.2
    have hp : 0 < len := Nat.pos_of_ne_zero fun e => by subst e; exact hne rfl
    obtain ⟨b, o, spot⟩ := a
    obtain ⟨q, ⟨hq0, _⟩, _⟩ := hstr 0 hp
    have hspot : spot = none := by simpa [Addr.add] using World.cell?_spot hq0
    subst hspot
    refine ⟨b, o, rfl, ?_, fun i q hi2 => ?_⟩
    · have := lt_of_cell hq0
      rw [Addr.add_mid] at this
      exact this
    · obtain ⟨hil, he⟩ := List.getElem?_eq_some_iff.1 hi2
      rw [List.length_ofFn] at hil
      rw [List.getElem_ofFn] at he
      have hs := (hstr i hil).choose_spec.1
      rw [he, Addr.add_mid, Addr.add_mid, Addr.add_mid, Addr.add_mid, ← Nat.add_assoc, ← Nat.add_assoc, ← Nat.add_assoc] at hs
      exact hs
end Go.Proofs.YtljdnjidphmkjaaDoor
