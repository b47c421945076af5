/- JoOpen: merged. -/
import Derived.Test.YtlcljphbldjieaaGreatDoorRows
import Derived.Test.YtlcljphbldjieaaGreatDoorJo06
import Derived.Test.YtlcljphbldjieaaGreatDoorJo12
set_option linter.all false
namespace Go.Proofs.YtlcljphbldjieaaGreatDoor
open Go Go.RowKit Go.ChangeShapes Go.WideShapes Go.Deep
section
variable {H : Type} {enc : TypeId × Value → H} {w : World} {base : Nat} {sp : Nat → Bool} {held : Bool}
theorem bulk_part {d : DataW H} : ∀ {l : List (DataW H)}, d ∈ l → Rows.uptoBulk d ≤ Rows.uptoBulkAll l
  | [], h => by cases h
  | x :: r, h => by
    simp only [Rows.uptoBulkAll]
    rcases List.mem_cons.1 h with e | e
    · subst e; omega
    · have := bulk_part (l := r) e; omega
theorem bulk_slice {d : DataW H} {elems spare : List (DataW H)} (h : d ∈ elems) : Rows.uptoBulk d ≤ Rows.uptoBulk (.slice elems spare) := by
  have := bulk_part h
  simp only [Rows.uptoBulk]; omega
theorem bulk_agg {d : DataW H} {parts : List (DataW H)} (h : d ∈ parts) : Rows.uptoBulk d ≤ Rows.uptoBulk (.agg parts) := by
  have := bulk_part h
  simp only [Rows.uptoBulk]; omega
theorem bulk_str (s : ByteArray) : Rows.uptoBulk (DataW.lit (H := H) (.string s.data.toList)) = s.size + 1 := by
  rw [show s.size = s.data.toList.length from Array.length_toList.symm]; simp only [Rows.uptoBulk]
theorem names_bulk {fuel : Nat} {k : List ByteArray} {v : Value} {x : DataW H × List MemPlace} (hr : RepK w k v) (h : DataW.trod enc Tryz.prog w base sp held fuel 24 [v] = some x) : ∀ t ∈ k, t.size ≤ Rows.uptoBulk x.1 := by
  intro t ht
  obtain ⟨A, c, rfl, hl, hc⟩ := hr
  obtain ⟨b, o, rfl, hb, hcc⟩ := hc (fun e => by rw [e] at ht; cases ht)
  rcases DataW.trod_slice Tryz.underlying24 h with ⟨e, _⟩ | ⟨a, len, cap, elems, rest, n, rfl, e, rfl, _, _, _, hlen, hel, _, _⟩
  · simp at e
  · simp only [List.cons.injEq, Value.slice.injEq, Option.some.injEq, and_true] at e
    obtain ⟨rfl, rfl, rfl⟩ := e
    obtain ⟨i, hi, rfl⟩ := List.mem_iff_getElem.1 ht
    obtain ⟨t, h1, _, h2⟩ := hcc i hi
    rw [List.getElem?_eq_getElem hi] at h1
    injection h1 with h1
    have h3 := hel i (by omega)
    rw [sized_string, Nat.mul_one, List.getElem?_eq_getElem (by omega), Option.bind_eq_some_iff] at h3
    obtain ⟨cs', hc', ht'⟩ := h3
    obtain ⟨s, rfl, he, _⟩ := DataW.trod_string Tryz.underlying9 ht'
    obtain ⟨_, _, hcell⟩ := World.cells?_some hc'
    have h0 := hcell 0 (by omega)
    rw [Go.Deep.add_add, Nat.add_zero, Addr.add_mid, h2] at h0
    have h0 : t = s := by simpa using h0
    have hm : (elems[i]'(by omega)).1 ∈ elems.map (·.1) := List.mem_map_of_mem (List.getElem_mem _)
    have := bulk_slice (spare := rest.map (·.1)) hm
    rw [he] at this
    rw [bulk_str] at this
    rw [h1, h0]; exact Nat.le_trans (Nat.le_succ _) this
theorem row_mild {fuel : Nat} {l : List J} {A : Option Addr} {c : Nat} {x : DataW H × List MemPlace} (hl : l ≠ [] → ∃ b o, A = some ⟨b, o, none⟩ ∧ b < w.heap.size ∧ RepC w b o l)
    (ih : ∀ j ∈ l, ∀ (a0 a1 a2 a3 a4 : Value) (fuel : Nat) (x : DataW H × List MemPlace), RepJ w j (.agg #[a0, a1, a2, a3, a4]) → DataW.trod enc Tryz.prog w base sp held fuel 26 [a0, a1, a2, a3, a4] = some x → Rows.uptoBulk x.1 ≤ 1000000000 → Mild j)
    (h : DataW.trod enc Tryz.prog w base sp held fuel 23 [.slice A l.length c] = some x) (hb : Rows.uptoBulk x.1 ≤ 1000000000) : ∀ j ∈ l, Mild j := by
  intro j hj
  obtain ⟨b, o, rfl, hlt, hc⟩ := hl (fun e => by rw [e] at hj; cases hj)
  rcases DataW.trod_slice Tryz.underlying23 h with ⟨e, _⟩ | ⟨a, len, cap, elems, rest, n, rfl, e, rfl, _, _, _, hlen, hel, _, _⟩
  · simp at e
  · simp only [List.cons.injEq, Value.slice.injEq, Option.some.injEq, and_true] at e
    obtain ⟨rfl, rfl, rfl⟩ := e
    obtain ⟨i, hi, rfl⟩ := List.mem_iff_getElem.1 hj
    obtain ⟨v, hr, a0, a1, a2, a3, a4, rfl, c0, c1, c2, c3, c4⟩ := hc.at i hi
    have h3 := hel i hi
    rw [sized_json, List.getElem?_eq_getElem (by omega), Option.bind_eq_some_iff] at h3
    obtain ⟨cs', hc', ht'⟩ := h3
    obtain ⟨_, h5, hcell⟩ := World.cells?_some hc'
    obtain ⟨b0, b1, b2, b3, b4, rfl⟩ := list_five cs' h5
    have q0 := hcell 0 (by omega)
    have q1 := hcell 1 (by omega)
    have q2 := hcell 2 (by omega)
    have q3 := hcell 3 (by omega)
    have q4 := hcell 4 (by omega)
    simp only [Addr.add_mid] at q0 q1 q2 q3 q4
    rw [Nat.add_zero, c0] at q0
    rw [c1] at q1; rw [c2] at q2; rw [c3] at q3; rw [c4] at q4
    injection q0 with q0; injection q1 with q1; injection q2 with q2; injection q3 with q3; injection q4 with q4
    subst q0; subst q1; subst q2; subst q3; subst q4
    have hm : (elems[i]'(by omega)).1 ∈ elems.map (·.1) := List.mem_map_of_mem (List.getElem_mem _)
    exact ih _ hj _ _ _ _ _ _ _ hr ht' (Nat.le_trans (bulk_slice (spare := rest.map (·.1)) hm) hb)
set_option maxRecDepth 100000 in
theorem json_mild (j : J) : ∀ (a0 a1 a2 a3 a4 : Value) (fuel : Nat) (x : DataW H × List MemPlace), RepJ w j (.agg #[a0, a1, a2, a3, a4]) → DataW.trod enc Tryz.prog w base sp held fuel 26 [a0, a1, a2, a3, a4] = some x → Rows.uptoBulk x.1 ≤ 1000000000 → Mild j := by
  induction j using J.ind with
  | h kind n s l k ih =>
    intro a0 a1 a2 a3 a4 fuel x hr h hb
    obtain ⟨xs, m, rfl, hx, hlen, hxl, hf⟩ := DataW.trod_struct Tryz.underlying26 h
    replace hxl : xs.length = 5 := hxl
    have hj := fun (j : Nat) (f : Field) (v : Value) (hj : _[j]? = some f) (hv : [a0, a1, a2, a3, a4][j]? = some v) => show DataW.trod enc Tryz.prog w base sp held m f.type [v] = xs[j]? from by
      have h1 := hf j f hj
      obtain ⟨ho, hk⟩ := hone_of (P := Tryz.prog) (by kernel_rfl) j f hj
      rw [ho, hk] at h1
      have hlt := (List.getElem?_eq_some_iff.1 hv).1
      rw [take1_drop _ j undef hlt, List.getD_eq_getElem?_getD, hv] at h1
      exact h1
    have f2 := hj 2 _ a2 rfl rfl
    have f3 := hj 3 _ a3 rfl rfl
    have f4 := hj 4 _ a4 rfl rfl
    rw [List.getElem?_eq_getElem (by omega)] at f2 f3 f4
    rw [RepJ] at hr
    obtain ⟨vk, A, c, e, hs, hk, hl, hc⟩ := hr
    simp only [Value.agg.injEq, Array.mk.injEq, List.cons.injEq, and_true] at e
    obtain ⟨rfl, rfl, rfl, rfl, rfl⟩ := e
    have hm : ∀ i (hi : i < xs.length), Rows.uptoBulk (xs[i]'hi).1 ≤ Rows.uptoBulk x.1 := fun i hi => by
      rw [hx]; exact bulk_agg (List.mem_map_of_mem (List.getElem_mem hi))
    obtain ⟨s', e2, he, _⟩ := DataW.trod_string Tryz.underlying9 f2
    injection e2 with e2 _
    injection e2 with e2
    subst e2
    refine .mk kind n s l k ?_ ?_ ?_
    · have := hm 2 (by omega)
      rw [he] at this
      rw [bulk_str] at this
      omega
    · intro t ht
      have := names_bulk hk f4 t ht
      have := hm 4 (by omega)
      omega
    · exact row_mild hc ih f3 (by have := hm 3 (by omega); omega)
end
end Go.Proofs.YtlcljphbldjieaaGreatDoor
