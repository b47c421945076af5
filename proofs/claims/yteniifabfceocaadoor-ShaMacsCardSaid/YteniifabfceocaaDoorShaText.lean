/- The walk of the laws' Text: a digest's bytes as a string. -/
import Derived.Test.YteniifabfceocaaDoorShaEq
import Derived.Laws.BytesString
import Derived.Laws.BytesArg
namespace Go.Proofs.YteniifabfceocaaDoor
open Go Go.RowKit
theorem own_ge {w : World} {base : Nat} {e : TypeId} {size : Nat} {v : Value} {n : Nat} {xs : List Value} (h : w.ownsRow base e size v n xs) : ∀ g, v.ownBlock = some g → base ≤ g := fun g hg => by
  rcases h.2 with ⟨rfl, _⟩ | ⟨g', cap, cur, rfl, hb, _⟩
  · simp [Value.ownBlock] at hg
  · have : g' = g := by simpa [Value.ownBlock] using hg
    omega
theorem info5 : (Tryd.prog.info? 5).map (fun i => (i.zero, i.size, i.bytes)) = some (some (.int .u8 0), 1, 1) := by kernel_rfl
set_option maxRecDepth 100000 in
set_option maxHeartbeats 400000 in
theorem text_any (D : List Int) (w : World) (hD : D.length = 32) (hb : Bytes D) :
    Calls Tryd.prog 11 #[.agg (ints .u8 D).toArray] w fun e w' => e = .returned (.string ⟨(D.map fun x => UInt8.ofNat x.toNat).toArray⟩) ∧ Below w.heap.size w w' := by
  have HD := Lib.hid hD
  have HB := Lib.hid hb
  clear hD hb
  go_enter Tryd.func11, Tryd.ntmps11
  go_wp2_with (first
    | (refine wpList_box_blk rfl (some 1) rfl _ (.tmp 0) rfl (ints .u8 D) rfl ?_; intro g1 w1 hg1 hb1 hgr; have hB1 := (Below.refl _ w).grown hgr (Nat.le_refl _) (by simp); clear hgr; try go_frame))
  obtain ⟨i0, hi0, hz0, hz1, hz2⟩ := info_parts info5
  have hg1B : g1 < w1.heap.size := hb1.lt
  have hown0 : (w1.alloc (.cells #[] 5)).ownsRow w1.heap.size 5 1 (.slice (some ⟨w1.heap.size, 0, none⟩) 0 0) 0 [] := World.ownsRow_lit w1 #[] 0 (Nat.le_refl _) (by unfold maxLen; omega) rfl
  obtain ⟨B, hBd⟩ : ∃ B, B = w1.heap.size := ⟨_, rfl⟩
  rw [← hBd] at hown0 hg1B
  have hBel0 : Below B w1 (w1.alloc (.cells #[] 5)) := by rw [hBd]; exact belowAlloc _ _
  have HBD := Lib.hid hBd
  have HB1 := Lib.hid hb1
  clear hBd hb1
  go_loopw [3, 4] (fun v i wr => ∃ k : Nat, k ≤ 32 ∧ i = .int .i64 k ∧ wr.ownsRow B 5 1 v k (ints .u8 (D.take k)) ∧ Below B w1 wr) (fun _ i _ => 32 - (intOf i).toNat)
  case atStart => exact ⟨0, by omega, rfl, by rw [HBD.out] at hown0 ⊢; exact hown0, hBel0⟩
  case round =>
    clear hown0 hBel0
    obtain ⟨k, hk, rfl, hown, hbel⟩ := hrel
    by_cases hlt : k < 32
    · have hbr : Blk wr g1 24 (ints .u8 D) := HB1.out.below hbel hg1B
      have gx := get_ints .u8 D k (by rw [HD.out]; exact hlt)
      have HTK : Hid (∀ _ : Unit, ints .u8 (D.take k) ++ [.int .u8 (D.getD k 0)] = ints .u8 (D.take (k + 1))) := Lib.hid (fun _ => by
        rw [List.take_add_one, List.getElem?_eq_getElem (by rw [HD.out]; exact hlt), ints_append]
        simp [ints, List.getD, HD.out, hlt])
      obtain ⟨x, hx⟩ : ∃ x, x = D.getD k 0 := ⟨_, rfl⟩
      rw [← hx] at gx HTK
      have GX := Lib.hid gx
      have hBs : B ≤ wr.heap.size := by have := hbel.size; rw [← HBD.out] at this; exact this
      have hbel2 : Below B w1 (wr.alloc (.cells #[.int .u8 x] 5)) := hbel.alloc hBs _
      have HBEL := Lib.hid hbel2
      clear hx gx hbel hbel2
      go_wp2_with (first
        | (refine wpList_load_cell rfl (some 13) rfl _ (.tmp 12) rfl g1 k rfl _ _ hbr (.int .u8 x) GX.out .u8 Tryd.underlying5 ?_)
        | (at_builtin; refine wpList_append_own _ rfl (.tmp 10) (.tmp 14) 26 rfl B 5 i0 (.int .u8 0) 1 1 Tryd.underlying26 hi0 hz0 hz1 hz2 rfl (by decide) _ k _ rfl (hown.alloc _) ⟨wr.heap.size, 0, none⟩ 1 1 [.int .u8 x] rfl rfl ?c1 ?c2 ?c3 ?c4 ?c5 ?_))
      case c1 => exact cell_one_new _ _ _
      case c2 => intro u hu; rw [List.mem_singleton.1 hu]; rfl
      case c3 => unfold maxLen; omega
      case c4 => omega
      case c5 => simp; omega
      intro v' w' hown' hgr _
      have HW : Hid (w'.ownsRow B 5 1 v' (k + 1) (ints .u8 (D.take (k + 1))) ∧ Below B w1 w') := Lib.hid ⟨by rw [← HTK.out ()]; exact hown', HBEL.out.grown hgr (by simp; omega) (own_ge hown)⟩
      clear hown hown' hgr hbr
      go_wp2_with fail
      go_roundw
      case rel => exact ⟨k + 1, by omega, by go_num, HW.out.1, HW.out.2⟩
      case measure => simp [intOf]; omega
    · have hk32 : k = 32 := by omega
      have hown2 := hown
      rw [hk32, List.take_of_length_le (by rw [HD.out]; omega)] at hown2
      obtain ⟨g, cap, rfl⟩ : ∃ g cap, u3 = .slice (some ⟨g, 0, none⟩) 32 cap := by
        rcases hown2.2 with ⟨_, h0⟩ | ⟨g, cap, cur, h0, _⟩
        · omega
        · exact ⟨g, cap, h0⟩
      have hcells : ∀ j u, (ints .u8 D)[j]? = some u → wr.cell? ((⟨g, 0, none⟩ : Addr).add j) = some u := fun j u hu => by
        rw [Addr.add_mid, Nat.zero_add]
        have hj := (List.getElem?_eq_some_iff.1 hu).1
        rw [length_ints, HD.out] at hj
        rw [hown2.cellAt j (by omega)]; exact hu
      have hld : (loadCells ⟨g, 0, none⟩ 32).run Tryd.prog wr = .ok (ints .u8 D).toArray wr := by
        have := run_loadCells_list (P := Tryd.prog) wr ⟨g, 0, none⟩ (ints .u8 D) hcells
        rw [length_ints, HD.out] at this; exact this
      have hcv : (convert 26 9 (.slice (some ⟨g, 0, none⟩) 32 cap)).run Tryd.prog wr = .ok (.string ⟨(D.map fun x => UInt8.ofNat x.toNat).toArray⟩) wr := by
        rw [run_convert_bytes_string wr _ _ 5 _ _ _ Tryd.underlying26 Tryd.underlying5 Tryd.underlying9, run_bytesToString wr _ _ _ D hld, foldl_push_bytes, show ByteArray.empty.data = #[] from rfl, Array.empty_append]
      have hBel3 : Below w.heap.size w wr := hB1.trans ((by rw [← HBD.out]; exact hbel : Below w1.heap.size w1 wr).mono hB1.size)
      have HBEL3 := Lib.hid hBel3
      clear hown hown2 hcells hld hbel hBel3
      go_wp2_with fail
      go_ret
      exact ⟨rfl, HBEL3.out⟩
end Go.Proofs.YteniifabfceocaaDoor
