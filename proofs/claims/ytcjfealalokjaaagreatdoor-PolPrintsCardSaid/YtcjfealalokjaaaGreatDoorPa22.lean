/- PolOpen: merged. -/
import Derived.Deep.Slices
import Derived.Deep.Fields
import Derived.ChangeSame
import Derived.ChangeArms
import Derived.Carry
import Derived.Test.YtcjfealalokjaaaGreatDoorPa15
set_option linter.all false
namespace Go.Proofs.YtcjfealalokjaaaGreatDoor
open Go Go.RowKit Go.ChangeShapes Go.WideShapes Go.Deep
abbrev AllB : Nat → Prop := fun _ => True
theorem RepEs.of_at {W : World} {S : Nat → Prop} {b : Nat} : ∀ {l : List Ex} {o : Nat}, (∀ i (hi : i < l.length), ∃ v, RepE W S l[i] v ∧ FiveE W b (o + i * 5) v) → RepEs W S b o l
  | [], _, _ => by rw [RepEs]; trivial
  | x :: r, o, h => by
    rw [RepEs]
    refine ⟨by have := h 0 (by simp); rwa [Nat.zero_mul] at this, RepEs.of_at fun i hi => ?_⟩
    have := h (i + 1) (by simpa using hi)
    rwa [show o + (i + 1) * 5 = o + 5 + i * 5 by omega] at this
theorem list_fiveX {α : Type} : ∀ (l : List α), l.length = 5 → ∃ a b c d e, l = [a, b, c, d, e]
  | [a, b, c, d, e], _ => ⟨a, b, c, d, e, rfl⟩
theorem list_fourX {α : Type} : ∀ (l : List α), l.length = 4 → ∃ a b c d, l = [a, b, c, d]
  | [a, b, c, d], _ => ⟨a, b, c, d, rfl⟩
theorem sizedX_string : Tryz.prog.cellsOf 9 = 1 := by kernel_rfl
theorem sizedX_expr : Tryz.prog.cellsOf 42 = 5 := by kernel_rfl
theorem sizedX_rule : Tryz.prog.cellsOf 45 = 4 := by kernel_rfl
section
variable {H : Type} {enc : TypeId × Value → H} {P : Program} {w : World} {base : Nat} {sp : Nat → Bool} {held : Bool}
theorem struct_onesX {t : TypeId} {fs : Array Field} {fuel : Nat} {cs : List Value} {x : DataW H × List MemPlace} (ht : P.underlying t = some (.struct fs)) (hone : oneCellFields P fs = true) (h : DataW.trod enc P w base sp held fuel t cs = some x) :
    ∃ (n : Nat) (xs : List (DataW H × List MemPlace)), fuel = n + 1 ∧ cs.length = P.cellsOf t ∧ xs.length = fs.size ∧ ∀ (j : Nat) (f : Field) (v : Value), fs[j]? = some f → cs[j]? = some v → DataW.trod enc P w base sp held n f.type [v] = xs[j]? := by
  obtain ⟨xs, n, rfl, rfl, hlen, hxl, hf⟩ := DataW.trod_struct ht h
  refine ⟨n, xs, rfl, hlen, hxl, fun j f v hj hv => ?_⟩
  have h1 := hf j f hj
  obtain ⟨ho, hk⟩ := hone_of hone j f hj
  rw [ho, hk] at h1
  have hlt := (List.getElem?_eq_some_iff.1 hv).1
  rw [take1_drop _ j undef hlt, List.getD_eq_getElem?_getD, hv] at h1
  exact h1
end
section
variable {H : Type} {enc : TypeId × Value → H} {w : World} {base : Nat} {sp : Nat → Bool} {held : Bool}
/-- A slice of strings. -/
theorem trodX_names {fuel : Nat} {cs : List Value} {x : DataW H × List MemPlace} (h : DataW.trod enc Tryz.prog w base sp held fuel 43 cs = some x) : ∃ v k, cs = [v] ∧ RepSt w AllB k v := by
  rcases open_slice Tryz.underlying43 h with ⟨rfl, _⟩ | ⟨a, len, cap, m, n, D, Pl, rfl, _, hl, hm, hmm, _, hi⟩
  · exact ⟨_, [], rfl, none, 0, rfl, by simp, fun h => absurd rfl h⟩
  · have hlm : len ≤ m := by rw [hmm]; split <;> omega
    have hstr : ∀ i, i < len → ∃ s : ByteArray, w.cell? (a.add i) = some (.string s) ∧ s.size ≤ 9223372036854775807 := fun i hil => by
      obtain ⟨cs', hc, ht⟩ := hi i (by omega)
      rw [sizedX_string, Nat.mul_one] at hc
      obtain ⟨s, rfl, _, hs⟩ := DataW.trod_string Tryz.underlying9 ht
      obtain ⟨_, _, hcell⟩ := World.cells?_some hc
      have h0 := hcell 0 (by omega)
      rw [Go.Deep.add_add, Nat.add_zero] at h0
      exact ⟨s, h0, by unfold maxLen at hs; omega⟩
    refine ⟨_, List.ofFn fun i : Fin len => (hstr i.val i.isLt).choose, rfl, some a, cap, by rw [List.length_ofFn], by rw [List.length_ofFn]; unfold maxLen at hm; omega, fun hne => ?_⟩
    have hp : 0 < len := Nat.pos_of_ne_zero fun e => by subst e; exact hne rfl
    obtain ⟨b, o, spot⟩ := a
    obtain ⟨q, hq0, _⟩ := hstr 0 hp
    have hspot : spot = none := by simpa [Addr.add] using World.cell?_spot hq0
    subst hspot
    refine ⟨b, o, rfl, trivial, lt_of_cell (by rw [Addr.add_mid] at hq0; exact hq0), fun i hil => ?_⟩
    rw [List.length_ofFn] at hil
    have hs := (hstr i hil).choose_spec
    exact ⟨_, by rw [List.getElem?_eq_getElem (by rw [List.length_ofFn]; exact hil), List.getElem_ofFn], hs.2, (congrArg w.cell? (Addr.add_mid b o i).symm).trans hs.1⟩
/-- A row of expressions, each of which opens. -/
theorem trodX_row {n fuel : Nat} {cs : List Value} {x : DataW H × List MemPlace} (ih : ∀ m, m < n → ∀ (cs : List Value) (x : DataW H × List MemPlace), DataW.trod enc Tryz.prog w base sp held m 42 cs = some x → ∃ a0 a1 a2 a3 a4 j, cs = [a0, a1, a2, a3, a4] ∧ RepE w AllB j (.agg #[a0, a1, a2, a3, a4]))
    (hn : fuel ≤ n) (h : DataW.trod enc Tryz.prog w base sp held fuel 40 cs = some x) :
    ∃ A c, ∃ l : List Ex, cs = [.slice A l.length c] ∧ (l.length ≤ c ∧ c ≤ 9223372036854775807) ∧ (l ≠ [] → ∃ b o, A = some ⟨b, o, none⟩ ∧ AllB b ∧ b < w.heap.size ∧ RepEs w AllB b o l) := by
  rcases DataW.trod_slice Tryz.underlying40 h with ⟨rfl, _⟩ | ⟨a, len, cap, elems, rest, m, rfl, rfl, _, _, hl, hm, hlen, hel, _, _⟩
  · exact ⟨none, 0, [], rfl, by simp, fun h => absurd rfl h⟩
  · have hj : ∀ i, i < len → ∃ j : Ex, ∃ a0 a1 a2 a3 a4, RepE w AllB j (.agg #[a0, a1, a2, a3, a4]) ∧ ∀ k, k < 5 → w.cell? ((a.add (i * 5)).add k) = [a0, a1, a2, a3, a4][k]? := fun i hil => by
      have h1 := hel i hil
      rw [sizedX_expr, List.getElem?_eq_getElem (by omega), Option.bind_eq_some_iff] at h1
      obtain ⟨cs', hc, ht⟩ := h1
      obtain ⟨a0, a1, a2, a3, a4, j, rfl, hr⟩ := ih m (by omega) _ _ ht
      exact ⟨j, a0, a1, a2, a3, a4, hr, (World.cells?_some hc).2.2⟩
    refine ⟨some a, cap, List.ofFn fun i : Fin len => (hj i.val i.isLt).choose, by rw [List.length_ofFn], by rw [List.length_ofFn]; unfold maxLen at hm; omega, fun hne => ?_⟩
    have hp : 0 < len := Nat.pos_of_ne_zero fun e => by subst e; exact hne rfl
    obtain ⟨b, o, spot⟩ := a
    obtain ⟨_, b0, _, _, _, _, _, hk0⟩ := hj 0 hp
    have hq0 : _ = some b0 := hk0 0 (by omega)
    have hspot : spot = none := by
      rw [Go.Deep.add_add] at hq0
      simpa [Addr.add] using World.cell?_spot hq0
    subst hspot
    refine ⟨b, o, rfl, trivial, lt_of_cell (by rw [Addr.add_mid, Addr.add_mid] at hq0; exact hq0), RepEs.of_at fun i hil => ?_⟩
    rw [List.length_ofFn] at hil
    rw [List.getElem_ofFn]
    obtain ⟨a0, a1, a2, a3, a4, hr, hk⟩ := (hj i hil).choose_spec
    simp only [Addr.add_mid] at hk
    exact ⟨_, hr, a0, a1, a2, a3, a4, rfl, hk 0 (by omega), hk 1 (by omega), hk 2 (by omega), hk 3 (by omega), hk 4 (by omega)⟩
set_option maxRecDepth 100000 in
theorem trodX_expr : ∀ (fuel : Nat) (cs : List Value) (x : DataW H × List MemPlace), DataW.trod enc Tryz.prog w base sp held fuel 42 cs = some x → ∃ a0 a1 a2 a3 a4 j, cs = [a0, a1, a2, a3, a4] ∧ RepE w AllB j (.agg #[a0, a1, a2, a3, a4]) := fun fuel => by
  induction fuel using Nat.strongRecOn with
  | ind fuel ih =>
    intro cs x h
    obtain ⟨n, xs, rfl, hlen, hxl, hj⟩ := struct_onesX Tryz.underlying42 (by kernel_rfl) h
    rw [sizedX_expr] at hlen
    obtain ⟨a0, a1, a2, a3, a4, rfl⟩ := list_fiveX cs hlen
    replace hxl : xs.length = 5 := hxl
    have f0 := hj 0 _ a0 rfl rfl
    have f1 := hj 1 _ a1 rfl rfl
    have f2 := hj 2 _ a2 rfl rfl
    have f3 := hj 3 _ a3 rfl rfl
    have f4 := hj 4 _ a4 rfl rfl
    rw [List.getElem?_eq_getElem (by omega)] at f0 f1 f2 f3 f4
    obtain ⟨op, e0, _⟩ := DataW.trod_int Tryz.underlying3 f0
    obtain ⟨s, e1, _, hs⟩ := DataW.trod_string Tryz.underlying9 f1
    obtain ⟨nn, e2, _⟩ := DataW.trod_int Tryz.underlying2 f2
    obtain ⟨A, c, l, e3, hl, hc⟩ := trodX_row (n := n + 1) ih (Nat.le_succ n) f3
    obtain ⟨ps, e4, _⟩ := DataW.trod_int Tryz.underlying3 f4
    injection e0 with e0 _; injection e1 with e1 _; injection e2 with e2 _; injection e3 with e3 _; injection e4 with e4 _
    subst e0; subst e1; subst e2; subst e3; subst e4
    exact ⟨_, _, _, _, _, .mk op s nn l ps, rfl, by rw [RepE]; exact ⟨A, c, rfl, by unfold maxLen at hs; omega, hl, hc⟩⟩
set_option maxRecDepth 100000 in
theorem trodX_rule (fuel : Nat) (cs : List Value) (x : DataW H × List MemPlace) (h : DataW.trod enc Tryz.prog w base sp held fuel 45 cs = some x) : ∃ a0 a1 a2 a3, ∃ j : RuleM, cs = [a0, a1, a2, a3] ∧ RepR w AllB j (.agg #[a0, a1, a2, a3]) := by
  obtain ⟨n, xs, rfl, hlen, hxl, hj⟩ := struct_onesX Tryz.underlying45 (by kernel_rfl) h
  rw [sizedX_rule] at hlen
  obtain ⟨a0, a1, a2, a3, rfl⟩ := list_fourX cs hlen
  replace hxl : xs.length = 4 := hxl
  have f0 := hj 0 _ a0 rfl rfl
  have f1 := hj 1 _ a1 rfl rfl
  have f2 := hj 2 _ a2 rfl rfl
  have f3 := hj 3 _ a3 rfl rfl
  rw [List.getElem?_eq_getElem (by omega)] at f0 f1 f2 f3
  obtain ⟨d, e0, _⟩ := DataW.trod_bool Tryz.underlying4 f0
  obtain ⟨vs, k, e1, hk⟩ := trodX_names f1
  obtain ⟨A, c, l, e2, hl, hc⟩ := trodX_row (n := n + 1) (fun m _ => trodX_expr m) (Nat.le_succ n) f2
  obtain ⟨ps, e3, _⟩ := DataW.trod_int Tryz.underlying3 f3
  injection e0 with e0 _; injection e1 with e1 _; injection e2 with e2 _; injection e3 with e3 _
  subst e0; subst e1; subst e2; subst e3
  exact ⟨_, _, _, _, ⟨d, k, l, ps⟩, rfl, _, _, rfl, hk, A, c, rfl, Nat.le_trans hl.1 hl.2, hc⟩
set_option maxRecDepth 100000 in
/-- A policy. -/
theorem open_rules {r : Reach} {b0 : Nat} {v : Value} {d : DataW H} {p : List MemPlace} (hv : Value.okWide Tryz.prog w r b0 23 v) (h : DataW.Trod enc Tryz.prog w base sp held 23 v d p) :
    ∃ l : List RuleM, RepP w (fun k => k < w.heap.size) l v := by
  obtain ⟨a0, len, cap, rfl⟩ := okWide_slice Tryz.underlying23 hv
  obtain ⟨fuel, hf⟩ := h
  have key : ∃ A c, ∃ l : List RuleM, [Value.slice a0 len cap] = [.slice A l.length c] ∧ l.length ≤ 9223372036854775807 ∧ (l ≠ [] → ∃ b o, A = some ⟨b, o, none⟩ ∧ AllB b ∧ b < w.heap.size ∧ RepRs w AllB b o l) := by
    rcases DataW.trod_slice Tryz.underlying23 hf with ⟨e, _⟩ | ⟨a, len, cap, elems, rest, m, rfl, e, _, _, hl, hm, hlen, hel, _, _⟩
    · exact ⟨none, 0, [], by simpa [Value.cells] using e, by simp, fun h => absurd rfl h⟩
    · have hj : ∀ i, i < len → ∃ j : RuleM, ∃ a0 a1 a2 a3, RepR w AllB j (.agg #[a0, a1, a2, a3]) ∧ ∀ k, k < 4 → w.cell? ((a.add (i * 4)).add k) = [a0, a1, a2, a3][k]? := fun i hil => by
        have h1 := hel i hil
        rw [sizedX_rule, List.getElem?_eq_getElem (by omega), Option.bind_eq_some_iff] at h1
        obtain ⟨cs', hc, ht⟩ := h1
        obtain ⟨a0, a1, a2, a3, j, rfl, hr⟩ := trodX_rule m _ _ ht
        exact ⟨j, a0, a1, a2, a3, hr, (World.cells?_some hc).2.2⟩
      refine ⟨some a, cap, List.ofFn fun i : Fin len => (hj i.val i.isLt).choose, by rw [List.length_ofFn]; simpa [Value.cells] using e, by rw [List.length_ofFn]; unfold maxLen at hm; omega, fun hne => ?_⟩
      have hp : 0 < len := Nat.pos_of_ne_zero fun e => by subst e; exact hne rfl
      obtain ⟨b, o, spot⟩ := a
      obtain ⟨_, b0, _, _, _, _, hk0⟩ := hj 0 hp
      have hq0 : _ = some b0 := hk0 0 (by omega)
      have hspot : spot = none := by
        rw [Go.Deep.add_add] at hq0
        simpa [Addr.add] using World.cell?_spot hq0
      subst hspot
      refine ⟨b, o, rfl, trivial, lt_of_cell (by rw [Addr.add_mid, Addr.add_mid] at hq0; exact hq0), fun i hil => ?_⟩
      rw [List.length_ofFn] at hil
      rw [List.getElem_ofFn]
      obtain ⟨a0, a1, a2, a3, hr, hk⟩ := (hj i hil).choose_spec
      simp only [Addr.add_mid] at hk
      exact ⟨a0, a1, a2, a3, hr, hk 0 (by omega), hk 1 (by omega), hk 2 (by omega), hk 3 (by omega)⟩
  obtain ⟨A, c, l, e, h1, h2⟩ := key
  refine ⟨l, ?_⟩
  have e2 : Value.slice a0 len cap = .slice A l.length c := by simpa using e
  rw [e2]
  exact RepP.all (S := AllB) ⟨A, c, rfl, h1, h2⟩
end
end Go.Proofs.YtcjfealalokjaaaGreatDoor
