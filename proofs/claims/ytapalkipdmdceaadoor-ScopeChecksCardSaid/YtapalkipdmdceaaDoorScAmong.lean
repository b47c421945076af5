/- The program's among: a function by which names are asked whether they are in a list; it rests on a set that nobody else holds. -/
import Derived.Test.YtapalkipdmdceaaDoorScSmall
namespace Go.Proofs.YtapalkipdmdceaaDoor
open Go Go.RowKit Go.Maps

theorem strKey : Keyed Tryd.prog 9 := string_keyed Tryd.underlying9
theorem zeroUnit (w : World) : (zeroValue 73).run Tryd.prog w = .ok (.agg #[]) w := by kernel_rfl
theorem run_makeMapN (n : Nat) (w : World) : (Instr.makeMap 72 (some (.int .i64 (n : Int)))).run Tryd.prog w = .ok (.map (some w.heap.size)) (w.alloc (.map #[] 0)) := by
  unfold Instr.makeMap
  simp [Sem.run_bind, run_underlying Tryd.underlying72, asInt]
  rfl
/-- A list's names as a set of keys. -/
def setD (ns : List ByteArray) : DataW Unit := setOf (.agg []) (ns.map fun x => Lit.string (nmL x))
theorem has_setD (ns : List ByteArray) (x : ByteArray) : Maps.has (setD ns) (.string (nmL x)) = hasN ns x := by
  unfold setD
  rw [has_setOf _ _ _ (by intro y hy; obtain ⟨z, _, rfl⟩ := List.mem_map.1 hy; trivial), List.any_map]
  unfold hasN
  congr 1
  funext y
  show (Lit.string (nmL y)).sameKey (.string (nmL x)) = (y.toList == x.toList)
  rw [nmL_toList, nmL_toList]; rfl
theorem setD_snoc (ns : List ByteArray) (x : ByteArray) : setD (ns ++ [x]) = (setD ns).put (.string (nmL x)) (.agg []) := by
  unfold setD
  rw [List.map_append, List.map_singleton, setOf_snoc]
theorem keyS (x : ByteArray) (h : x.size ≤ 1000000000) : keyOf Tryd.prog 9 (.string x) = some (.string (nmL x)) := Go.WideMaps.keyOf_string_mk Tryd.underlying9 (by unfold maxLen; omega)
/-- Block mb is a set of these names; the variable that holds it lies in block vb. -/
def SetAt (w : World) (vb mb : Nat) (ns : List ByteArray) : Prop := w.cell? ⟨vb, 0, none⟩ = some (.map (some mb)) ∧ vb < w.heap.size ∧ mb < w.heap.size ∧ ∃ n, w.ownsMap Tryd.prog 9 unitElem mb n (setD ns)
theorem SetAt.below {w w' : World} {vb mb : Nat} {ns : List ByteArray} (h : SetAt w vb mb ns) (hb : Below w.heap.size w w') : SetAt w' vb mb ns := by
  obtain ⟨h1, h2, h3, n, es, clock, h4, h5⟩ := h
  exact ⟨(hb.cell (p := ⟨vb, 0, none⟩) h2).trans h1, Nat.lt_of_lt_of_le h2 hb.size, Nat.lt_of_lt_of_le h3 hb.size, n, es, clock, by rw [hb.block mb h3]; exact h4, h5⟩
set_option maxRecDepth 100000 in
set_option maxHeartbeats 1000000 in
theorem isIn_any (vb mb : Nat) (ns : List ByteArray) (x : ByteArray) (w : World) (h : SetAt w vb mb ns) (hx : x.size ≤ 1000000000) :
    Calls Tryd.prog 41 #[.string x, .pointer (some ⟨vb, 0, none⟩)] w fun e w' => e = .returned (.bool (hasN ns x)) ∧ Below w.heap.size w w' := by
  obtain ⟨h1, h2, h3, n, hown⟩ := h
  have HR : Hid (Maps.has (setD ns) (.string (nmL x)) = hasN ns x) := Lib.hid (has_setD ns x)
  have HOW := Lib.hid hown
  have HK := Lib.hid (keyS x hx)
  have HB := Lib.hid (fun o => belowAlloc w o)
  clear hown
  go_enter Tryd.func41, Tryd.ntmps41
  go_wp2_with (at_lookup; refine wpList_lookup_own_unit _ rfl _ _ 72 rfl 9 73 strKey Tryd.underlying72 (zeroUnit _) mb n _ rfl HOW.out _ _ rfl HK.out ?_; rw [HR.out])
  go_ret
  exact ⟨rfl, HB.out _⟩
set_option maxRecDepth 100000 in
set_option maxHeartbeats 2000000 in
theorem among_any (v : Value) (ns : List ByteArray) (w : World) (h : SliceN w v ns) (hn : ns.length ≤ 1000000000) :
    Calls Tryd.prog 28 #[v] w fun e w' => ∃ vb mb, e = .returned (.func (.func 41) #[] #[.pointer (some ⟨vb, 0, none⟩)]) ∧ w.heap.size ≤ vb ∧ SetAt w' vb mb ns ∧ Below w.heap.size w w' := by
  obtain ⟨A, c, rfl, hc, hl, hok⟩ := h
  obtain ⟨n, hnn⟩ : ∃ n, n = ns.length := ⟨_, rfl⟩
  rw [← hnn] at hc hn ⊢
  have HN := Lib.hid hnn
  have HL := Lib.hid hl
  have HOK := Lib.hid hok
  have hmm := run_makeMapN n
  have HM0 : Hid (∀ W : World, (W.alloc (.map #[] 0)).ownsMap Tryd.prog 9 unitElem W.heap.size 0 (setD [])) := Lib.hid (fun W => World.ownsMap_made _ _ _ _)
  clear hnn hl hok
  go_enter Tryd.func28, Tryd.ntmps28
  go_wp2
  go_loopw [11] (fun i wr => ∃ k : Nat, k ≤ n ∧ i = .int .i64 (k : Int) ∧ wr.ownsMap Tryd.prog 9 unitElem w.heap.size k (setD (ns.take k)) ∧ wr.cell? ⟨w.heap.size + 1, 0, none⟩ = some (.map (some w.heap.size)) ∧ Below w.heap.size w wr ∧ w.heap.size + 2 ≤ wr.heap.size) (fun i _ => n - (intOf i).toNat)
  case atStart =>
    refine ⟨0, Nat.zero_le _, rfl, ?_, by simp, ?_, by simp⟩
    · rw [List.take_zero]
      exact (HM0.out w).alloc _
    · exact (belowAlloc w _).alloc (by simp) _
  case round =>
    obtain ⟨k, hk, rfl, hown, hvar, hbel, hsz⟩ := hrel
    have HOW := Lib.hid hown
    have HBE := Lib.hid hbel
    clear hown hbel
    by_cases hlt : k < n
    · have hkl : k < ns.length := by rw [← HN.out]; exact hlt
      obtain ⟨b, o, rfl, _, hcell⟩ := (HL.out.below HBE.out).at hkl
      have hi0 : (0 : Int) ≤ (k : Int) := by omega
      have HST : Hid (setD (ns.take (k + 1)) = (setD (ns.take k)).put (.string (nmL ns[k])) (.agg [])) := Lib.hid (by rw [List.take_succ_eq_append_getElem hkl, setD_snoc])
      have HK := Lib.hid (keyS ns[k] (HOK.out _ (List.getElem_mem hkl)))
      obtain ⟨x, hx⟩ : ∃ x, x = ns[k] := ⟨_, rfl⟩
      rw [← hx] at hcell HST HK
      clear hx hkl
      go_wp2_with (at_mapUpdate; refine wpList_mapUpdate_own _ rfl _ _ _ 72 rfl 9 73 strKey Tryd.underlying72 (unitElem (H := Unit)) w.heap.size k _ rfl HOW.out (by unfold maxLen; omega) _ _ _ rfl rfl HK.out _ [] unitElem_mk ?_; intro w1 hown1 hgrow1)
      have h1 := hgrow1.size
      have hv1 : w1.cell? ⟨w.heap.size + 1, 0, none⟩ = some (.map (some w.heap.size)) := by
        rw [← hvar]; unfold World.cell?
        rw [hgrow1.block (w.heap.size + 1) (by omega) (by simp)]
      go_roundw
      case rel => exact ⟨k + 1, by omega, by go_num, by rw [HST.out]; exact hown1, hv1, HBE.out.grown hgrow1 HBE.out.size (fun j hj => by cases hj; exact Nat.le_refl _), by omega⟩
      case measure => simp [intOf]; omega
    · obtain rfl : k = n := by omega
      have HT : Hid (ns.take k = ns) := Lib.hid (by rw [HN.out]; exact List.take_length)
      clear hlt
      go_wp2
      go_ret
      refine ⟨w.heap.size + 1, w.heap.size, rfl, by omega, ⟨hvar, by omega, by omega, k, ?_⟩, HBE.out⟩
      have := HOW.out
      rwa [HT.out] at this
end Go.Proofs.YtapalkipdmdceaaDoor
