/- Names of a call's own, sorted and compacted where they lie: their set. -/
import Derived.Test.YtapalkipdmdceaaDoorScAmong
import Derived.Test.YtapalkipdmdceaaDoorShelf
namespace Go.Proofs.YtapalkipdmdceaaDoor
open Go Go.RowKit Go.Sort

theorem cloneS_any (s : ByteArray) (w : World) (hs : s.size ≤ 1000000000) : Calls Tryd.prog 40 #[.string s] w fun e w' => e = .returned (.string s) ∧ Below w.heap.size w w' := by
  have HC := Lib.hid (Tryd.stringslite_Clone s w (by omega))
  go_enter Tryd.func40, Tryd.ntmps40
  go_wp2_with (go_at_call 51; (with_reducible refine HC.out.mono ?_); rintro e w' ⟨rfl, hb⟩)
  go_ret
  exact ⟨rfl, hb⟩
theorem sortN_any (B : Nat) (w0 W : World) (v : Value) (n : Nat) (zs : List (List UInt8)) (hown : W.ownsRow B 9 1 v n (zs.map encStr)) (hb : Below w0.heap.size w0 W) (hB : w0.heap.size ≤ B) (hn : n ≤ 2000000000) :
    Calls Tryd.prog 38 #[v] W fun e w' => e = .returned (.tuple #[]) ∧ w'.ownsRow B 9 1 v n ((zs.mergeSort fun x y => decide (x ≤ y)).map encStr) ∧ Below w0.heap.size w0 w' := by
  have hl : zs.length = n := by simpa using hown.1
  subst hl
  rcases hown.2 with ⟨rfl, h0⟩ | ⟨g, cap, cur, rfl, hbase, hg, h1, h2, h3, h4⟩
  · have : zs = [] := List.eq_nil_of_length_eq_zero h0
    subst this
    refine (Tryd.slices_Sort_string_none none 0 W).mono ?_
    rintro e w' ⟨rfl, rfl⟩
    exact ⟨rfl, by simpa using hown, hb⟩
  · have hlt := (hown.lt g rfl).2
    have hH := holds_of_block hg (by simpa using h4)
    refine (Tryd.slices_Sort_string g 0 cap zs W hH hlt (by omega)).mono ?_
    rintro e w' ⟨rfl, m, os, rfl⟩
    refine ⟨rfl, ownsRow_sorted (by simp) hbase hg h1 h2 h3, hb.grown (grownBy_sorted _) hb.size (fun k hk => by injection hk with hk; omega)⟩
theorem compactN_any (B : Nat) (w0 W : World) (v : Value) (n : Nat) (zs : List (List UInt8)) (hown : W.ownsRow B 9 1 v n (zs.map encStr)) (hb : Below w0.heap.size w0 W) (hB : w0.heap.size ≤ B) (hn : n ≤ 2000000000) :
    Calls Tryd.prog 39 #[v] W fun e w' => ∃ v', e = .returned v' ∧ w'.ownsRow B 9 1 v' (Lib.compact zs).length ((Lib.compact zs).map encStr) ∧ Below w0.heap.size w0 w' := by
  have hl : zs.length = n := by simpa using hown.1
  subst hl
  rcases hown.2 with ⟨rfl, h0⟩ | ⟨g, cap, cur, rfl, hbase, hg, h1, h2, h3, h4⟩
  · have : zs = [] := List.eq_nil_of_length_eq_zero h0
    subst this
    refine (Tryd.slices_Compact_string_empty none 0 W).mono ?_
    rintro e w' ⟨rfl, rfl⟩
    exact ⟨_, rfl, by simpa [Lib.compact, Lib.compactUpTo] using hown, hb⟩
  · have hlt := (hown.lt g rfl).2
    have hH := holds_of_block hg (by simpa using h4)
    have hcl : (Lib.compact zs).length ≤ zs.length := by
      unfold Lib.compact Lib.compactUpTo
      rw [List.length_map]
      refine Nat.le_trans (List.length_filter_le _ _) ?_
      simp
    refine (Tryd.slices_Compact_string g 0 cap zs W hH (by omega) h1).mono ?_
    rintro e w' ⟨rfl, q, rfl⟩
    refine ⟨_, rfl, ?_, Lib.below_putRow hb (by omega)⟩
    have := Lib.ownsRow_putRow (q := q) (k := (Lib.compact zs).length) (ys := Lib.compact zs ++ List.replicate (zs.length - (Lib.compact zs).length) []) hown (by simp; omega) hcl
    rwa [List.take_left] at this
theorem strV_set (ns : List ByteArray) : (Lib.compact ((ns.map nmL).mergeSort fun x y => decide (x ≤ y))).map encStr = strV (setS ns) := by
  rw [← sorted_set, strV, List.map_map]
  rfl
theorem len_set (ns : List ByteArray) : (Lib.compact ((ns.map nmL).mergeSort fun x y => decide (x ≤ y))).length = (setS ns).length := by
  rw [← sorted_set, List.length_map]
end Go.Proofs.YtapalkipdmdceaaDoor
