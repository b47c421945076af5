/- LxRow, LxOpen, LxOpenB: merged. -/
import Derived.Deep.Slices
import Derived.Deep.Fields
import Derived.ChangeSame
import Derived.Carry
import Derived.ChangeSlices
import Derived.Test.YtljdnjidphmkjaaDoorLk05
import Derived.Test.YtljdnjidphmkjaaDoorLk11
set_option linter.all false
namespace Go.Proofs.YtljdnjidphmkjaaDoor
open Go Go.RowKit
theorem maxL_of {W : World} (h : W.ShapedOpen Tryd.prog) : MaxL W := Go.Proofs.cell_of_shapedOpen_int (zero := #[.int .i64 0]) (t := 3) h (of_decide_eq_true (by kernel_rfl)) (by kernel_rfl) rfl (by kernel_rfl) (by kernel_rfl) Tryd.underlying3
theorem marksP {W : World} (h : laidMetH Tryd.prog laidP W) (hsh : W.ShapedOpen Tryd.prog) : Marks W := by
  have h' : laidMet Tryd.prog laidP W := (laidMetH_iff.1 h).1
  obtain ⟨ps, ⟨g0, t0, cs0, f0, p0, q0, hg0, ht0, hv0, hd0, _, _⟩, _, _⟩ := h'
  obtain rfl := Option.some.inj (gMarks.symm.trans hg0)
  obtain rfl := Option.some.inj (tMarks.symm.trans ht0)
  have e0 := Lib.cells_of_tab (zs := [0, 0, 192, 224, 240]) Tryd.underlying129 Tryd.underlying3 cInt cFive hd0
  exact blk_of hsh (by rw [sizeGlobals]; decide) rowMarks gMarks hv0 e0
theorem ask11P {W : World} (h : laidMetH Tryd.prog laidP W) (hsh : W.ShapedOpen Tryd.prog) : Ask11 W := ⟨marksP h hsh, maxL_of hsh⟩
theorem laidWorldP_met (os : Os) (args : Array Value) : laidMetH Tryd.prog laidP ((laidWorldB os).forCall (fun _ _ => 0) ⟨#[], args, []⟩).memory := by
  refine laidMetH_of_parts ?_ (by kernel_rfl)
  have h : laidMet Tryd.prog laidP (laidWorldB os) := laidMet_layVars (w0 := laidWorldE os) ["warrant/utf.firstMarks"] [] (by kernel_rfl) (by kernel_rfl) (by kernel_rfl) LaidIn.none
  exact h.of_heap (by simp [World.memory, World.forCall, Input.heap])
end Go.Proofs.YtljdnjidphmkjaaDoor
namespace Go.Proofs.YtljdnjidphmkjaaDoor
open Go Go.RowKit Go.ChangeShapes Go.WideShapes Go.Deep
section
variable {H : Type} {enc : TypeId × Value → H} {P : Program} {w : World} {base : Nat} {spare : Nat → Bool} {held : Bool}
/-- A slice of structs of one-cell fields, its cells and their readings. -/
theorem open_fields {t e : TypeId} {fs : Array Field} {fuel : Nat} {cs : List Value} {x : DataW H × List MemPlace} (ht : P.underlying t = some (.slice e)) (he : P.underlying e = some (.struct fs))
    (hone : oneCellFields P fs = true) (hC : P.cellsOf e = fs.size) (h : DataW.trod enc P w base spare held fuel t cs = some x) :
    (cs = [.slice none 0 0]) ∨
    ∃ (a : Addr) (len cap m : Nat), cs = [.slice (some a) len cap] ∧ len ≤ cap ∧ cap ≤ maxLen ∧ len ≤ m ∧
      ∀ i, i < m → ∀ (j : Nat) (f : Field), fs[j]? = some f → ∃ (v : Value) (y : DataW H × List MemPlace) (n : Nat), w.cell? (a.add (i * fs.size + j)) = some v ∧ DataW.trod enc P w base spare held n f.type [v] = some y := by
  rcases open_slice ht h with h0 | ⟨a, len, cap, m, n, D, Pl, hcs, hb, hl, hm, hmm, hx, hi⟩
  · exact .inl h0.1
  · refine .inr ⟨a, len, cap, m, hcs, hl, hm, by rw [hmm]; split <;> omega, fun i him j f hj => ?_⟩
    obtain ⟨cs', hc, ht'⟩ := hi i him
    rw [hC] at hc
    obtain ⟨ys, n', hn', hy, hlen, hyl, hf⟩ := DataW.trod_struct he ht'
    obtain ⟨_, hcl, hat⟩ := World.cells?_some hc
    obtain ⟨ho, hk⟩ := hone_of hone j f hj
    have hjl : j < fs.size := (Array.getElem?_eq_some_iff.1 hj).1
    have hcell := hat j hjl
    have hv : cs'[j]? = some (cs'[j]'(by omega)) := List.getElem?_eq_getElem (by omega)
    have h1 := hf j f hj
    rw [ho, hk] at h1
    have hone' : (cs'.drop j).take 1 = [cs'[j]'(by omega)] := by
      rw [List.drop_eq_getElem_cons (by omega)]
      rfl
    rw [hone'] at h1
    have hys : ys[j]? = some (ys[j]'(by omega)) := List.getElem?_eq_getElem (by omega)
    refine ⟨_, _, n', ?_, h1.trans hys⟩
    rw [← Go.Deep.add_add, hcell, hv]
end
theorem i64_bd {n : Int} (h : (Lit.int .i64 n).wf = true) : -9223372036854775808 ≤ n ∧ n ≤ 9223372036854775807 := by
  unfold Lit.wf at h
  rw [Bool.and_eq_true] at h
  exact ⟨of_decide_eq_true h.1, of_decide_eq_true h.2⟩
set_option maxRecDepth 100000 in
/-- A law's slice of tokens. -/
theorem open_toks {H : Type} {enc : TypeId × Value → H} {w : World} {base b0 : Nat} {r : Reach} {sp : Nat → Bool} {held : Bool} {v : Value} {d : DataW H} {p : List MemPlace} (hv : Value.okWide Tryd.prog w r b0 23 v) (h : DataW.Trod enc Tryd.prog w base sp held 23 v d p) :
    ∃ A n c, ∃ ts : List TokM, v = .slice A n c ∧ ts.length = n ∧ n ≤ c ∧ n ≤ 9223372036854775807 ∧ TokOk ts ∧ ToksAt w A ts := by
  obtain ⟨a0, len, cap, rfl⟩ := okWide_slice Tryd.underlying23 hv
  obtain ⟨fuel, hf⟩ := h
  rcases open_fields Tryd.underlying23 Tryd.underlying34 (by kernel_rfl) (by kernel_rfl) hf with hcs | ⟨a, len', cap', m, hcs, hl, hm, hlm, hi⟩
  · simp [Value.cells] at hcs
    obtain ⟨rfl, rfl, rfl⟩ := hcs
    exact ⟨none, 0, 0, [], rfl, rfl, Nat.le_refl _, by omega, (fun k hk => by cases hk), ToksAt.nil _ _⟩
  · simp [Value.cells] at hcs
    obtain ⟨rfl, rfl, rfl⟩ := hcs
    have hstr : ∀ i, i < len → ∃ t : TokM, (w.cell? (a.add (i * 4)) = some (.int .i64 t.kind) ∧ w.cell? (a.add (i * 4 + 1)) = some (.string t.text) ∧ w.cell? (a.add (i * 4 + 2)) = some (.int .i64 t.num) ∧ w.cell? (a.add (i * 4 + 3)) = some (.int .i64 t.pos)) ∧ t.text.size ≤ 9223372036854775807 ∧ -9223372036854775808 ≤ t.num ∧ t.num ≤ 9223372036854775807 := fun i hil => by
      obtain ⟨v0, y0, n0, c0, t0⟩ := hi i (by omega) 0 _ rfl
      obtain ⟨v1, y1, n1, c1, t1⟩ := hi i (by omega) 1 _ rfl
      obtain ⟨v2, y2, n2, c2, t2⟩ := hi i (by omega) 2 _ rfl
      obtain ⟨v3, y3, n3, c3, t3⟩ := hi i (by omega) 3 _ rfl
      obtain ⟨k0, e0, _, z0⟩ := DataW.trod_int Tryd.underlying3 t0
      obtain ⟨s1, e1, _, z1⟩ := DataW.trod_string Tryd.underlying9 t1
      obtain ⟨k2, e2, _, z2⟩ := DataW.trod_int Tryd.underlying2 t2
      obtain ⟨k3, e3, _, z3⟩ := DataW.trod_int Tryd.underlying3 t3
      simp at e0 e1 e2 e3
      subst e0; subst e1; subst e2; subst e3
      unfold maxLen at z1
      exact ⟨⟨k0, s1, k2, k3⟩, ⟨c0, c1, c2, c3⟩, by show s1.size ≤ _; omega, i64_bd z2⟩
    refine ⟨some a, len, cap, List.ofFn fun i : Fin len => (hstr i.val i.isLt).choose, rfl, by simp, hl, by unfold maxLen at hm; omega, fun k hk => ?_, fun hne => ?_⟩
    · obtain ⟨i, hi3, rfl⟩ := List.getElem_of_mem hk
      rw [List.length_ofFn] at hi3
      rw [List.getElem_ofFn]
      exact (hstr i hi3).choose_spec.2
    have hp : 0 < len := Nat.pos_of_ne_zero fun e => by subst e; exact hne rfl
    obtain ⟨b, o, spot⟩ := a
    obtain ⟨q, ⟨hq0, _⟩, _⟩ := hstr 0 hp
    have hspot : spot = none := by simpa [Addr.add] using World.cell?_spot hq0
    subst hspot
    refine ⟨b, o, rfl, ?_, fun i q hi2 => ?_⟩
    · have := lt_of_cell hq0
      rw [Addr.add_mid] at this
      exact this
    · obtain ⟨hil, he⟩ := List.getElem?_eq_some_iff.1 hi2
      rw [List.length_ofFn] at hil
      rw [List.getElem_ofFn] at he
      have hs := (hstr i hil).choose_spec.1
      rw [he, Addr.add_mid, Addr.add_mid, Addr.add_mid, Addr.add_mid, ← Nat.add_assoc, ← Nat.add_assoc, ← Nat.add_assoc] at hs
      exact hs
end Go.Proofs.YtljdnjidphmkjaaDoor
namespace Go.Proofs.YtljdnjidphmkjaaDoor
open Go Go.RowKit Go.ChangeShapes Go.WideShapes Go.Deep
theorem u8_bd {n : Int} (h : (Lit.int .u8 n).wf = true) : 0 ≤ n ∧ n ≤ 255 := by
  unfold Lit.wf at h
  rw [Bool.and_eq_true] at h
  have h1 : IntKind.u8.min ≤ n := of_decide_eq_true h.1
  have h2 : n ≤ IntKind.u8.max := of_decide_eq_true h.2
  exact ⟨h1, h2⟩
set_option maxRecDepth 100000 in
/-- A law's slice of bytes. -/
theorem open_u8s {H : Type} {enc : TypeId × Value → H} {w : World} {base b0 : Nat} {r : Reach} {sp : Nat → Bool} {held : Bool} {v : Value} {d : DataW H} {p : List MemPlace} (hv : Value.okWide Tryd.prog w r b0 40 v) (h : DataW.Trod enc Tryd.prog w base sp held 40 v d p) :
    ∃ A n c, ∃ xs : List Int, v = .slice A n c ∧ xs.length = n ∧ n ≤ c ∧ n ≤ 9223372036854775807 ∧ Bytes xs ∧ Lies w A xs := by
  obtain ⟨a0, len, cap, rfl⟩ := okWide_slice Tryd.underlying40 hv
  obtain ⟨fuel, hf⟩ := h
  rcases open_ints Tryd.underlying40 Tryd.underlying5 (by kernel_rfl) hf with ⟨hcs, _⟩ | ⟨a, len', cap', zs, hcs, _, hl, hm, hz, _, hcell, hwz⟩
  · simp [Value.cells] at hcs
    obtain ⟨rfl, rfl, rfl⟩ := hcs
    exact ⟨none, 0, 0, [], rfl, rfl, Nat.le_refl _, by omega, .of_mem (fun k hk => by cases hk), fun hp => absurd hp (by simp)⟩
  · simp [Value.cells] at hcs
    obtain ⟨rfl, rfl, rfl⟩ := hcs
    have hlz : len ≤ zs.length := by rw [hz]; split <;> omega
    have hlen : (zs.take len).length = len := by rw [List.length_take]; omega
    refine ⟨some a, len, cap, zs.take len, rfl, hlen, hl, by unfold maxLen at hm; omega, .of_mem fun x hx => u8_bd (hwz x (List.mem_of_mem_take hx)), fun hp => ?_⟩
    rw [hlen] at hp
    obtain ⟨b, o, spot⟩ := a
    have hq0 := hcell 0 (by omega)
    have hspot : spot = none := by simpa [Addr.add] using World.cell?_spot hq0
    subst hspot
    have hlt : b < w.heap.size := by
      have := lt_of_cell hq0
      rw [Addr.add_mid] at this
      exact this
    refine ⟨b, o, rfl, Nat.ne_of_lt hlt, hlt, fun j v hv => ?_⟩
    rw [ints, List.getElem?_map, Option.map_eq_some_iff] at hv
    obtain ⟨z, hz1, rfl⟩ := hv
    obtain ⟨hj, hz2⟩ := List.getElem?_eq_some_iff.1 hz1
    rw [hlen] at hj
    rw [List.getElem_take] at hz2
    have h3 := hcell j (by omega)
    rw [Addr.add_mid, List.getD_eq_getElem?_getD, List.getElem?_eq_getElem (by omega), Option.getD_some, hz2] at h3
    exact h3
section
variable {H : Type} {enc : TypeId × Value → H} {w : World} {base : Nat} {sp : Nat → Bool} {held : Bool}
theorem bulk_part {d : DataW H} : ∀ {l : List (DataW H)}, d ∈ l → Rows.uptoBulk d ≤ Rows.uptoBulkAll l
  | [], h => by cases h
  | x :: r, h => by
    simp only [Rows.uptoBulkAll]
    rcases List.mem_cons.1 h with e | e
    · subst e; omega
    · have := bulk_part (l := r) e; omega
theorem bulk_slice {d : DataW H} {elems spare : List (DataW H)} (h : d ∈ elems) : Rows.uptoBulk d ≤ Rows.uptoBulk (.slice elems spare) := by
  have := bulk_part h
  simp only [Rows.uptoBulk]; omega
theorem bulk_agg {d : DataW H} {parts : List (DataW H)} (h : d ∈ parts) : Rows.uptoBulk d ≤ Rows.uptoBulk (.agg parts) := by
  have := bulk_part h
  simp only [Rows.uptoBulk]; omega
theorem bulk_str (s : ByteArray) : Rows.uptoBulk (DataW.lit (H := H) (.string s.data.toList)) = s.size + 1 := by
  rw [show s.size = s.data.toList.length from Array.length_toList.symm]; simp only [Rows.uptoBulk]
theorem sized_tok : Tryd.prog.cellsOf 34 = 4 := by kernel_rfl
theorem list_four {α : Type} (l : List α) (h : l.length = 4) : ∃ a b c d, l = [a, b, c, d] := by
  match l, h with
  | [a, b, c, d], _ => exact ⟨a, b, c, d, rfl⟩
theorem toks_bulk {fuel : Nat} {ts : List TokM} {A : Option Addr} {n c : Nat} {x : DataW H × List MemPlace} (hts : ToksAt w A ts) (hn : ts.length = n) (h : DataW.trod enc Tryd.prog w base sp held fuel 23 [.slice A n c] = some x) : ∀ t ∈ ts, t.text.size ≤ Rows.uptoBulk x.1 := by
  intro t ht
  obtain ⟨i, hi, rfl⟩ := List.mem_iff_getElem.1 ht
  obtain ⟨b, o, rfl, hbl, x0, x1, x2, x3⟩ := hts.at hi
  rcases DataW.trod_slice Tryd.underlying23 h with ⟨e, _⟩ | ⟨a, len, cap, elems, rest, n', rfl, e, rfl, _, _, _, hlen, hel, _, _⟩
  · simp at e
  · simp only [List.cons.injEq, Value.slice.injEq, Option.some.injEq, and_true] at e
    obtain ⟨rfl, rfl, rfl⟩ := e
    have h3 := hel i (by omega)
    rw [sized_tok, List.getElem?_eq_getElem (by omega), Option.bind_eq_some_iff] at h3
    obtain ⟨cs', hc', ht'⟩ := h3
    obtain ⟨_, h5, hcell⟩ := World.cells?_some hc'
    obtain ⟨b0, b1, b2, b3, rfl⟩ := list_four cs' h5
    have q1 := hcell 1 (by omega)
    simp only [Addr.add_mid] at q1
    rw [x1] at q1
    have q1 : Value.string ts[i].text = b1 := by simpa using q1
    obtain ⟨xs, m, rfl, hx, _, hxl, hf⟩ := DataW.trod_struct Tryd.underlying34 ht'
    replace hxl : xs.length = 4 := hxl
    have hj := fun (j : Nat) (f : Field) (v : Value) (hj : _[j]? = some f) (hv : [b0, b1, b2, b3][j]? = some v) => show DataW.trod enc Tryd.prog w base sp held m f.type [v] = xs[j]? from by
      have h1 := hf j f hj
      obtain ⟨ho, hk⟩ := hone_of (P := Tryd.prog) (by kernel_rfl) j f hj
      rw [ho, hk] at h1
      have hlt := (List.getElem?_eq_some_iff.1 hv).1
      rw [take1_drop _ j undef hlt, List.getD_eq_getElem?_getD, hv] at h1
      exact h1
    have f1 := hj 1 _ b1 rfl rfl
    rw [List.getElem?_eq_getElem (by omega)] at f1
    obtain ⟨s', e2, he, _⟩ := DataW.trod_string Tryd.underlying9 f1
    injection e2 with e2 _
    subst q1
    injection e2 with e2
    have hm : (elems[i]'(by omega)).1 ∈ elems.map (·.1) := List.mem_map_of_mem (List.getElem_mem _)
    have k1 := bulk_slice (spare := rest.map (·.1)) hm
    rw [hx] at k1
    have k2 := bulk_agg (List.mem_map_of_mem (f := (·.1)) (List.getElem_mem (l := xs) (n := 1) (by omega)))
    rw [he, bulk_str, ← e2] at k2
    simp only at k1 k2 ⊢
    omega
end
end Go.Proofs.YtljdnjidphmkjaaDoor
