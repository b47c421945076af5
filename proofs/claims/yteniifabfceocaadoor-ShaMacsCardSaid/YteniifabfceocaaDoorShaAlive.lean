/- The walk of the laws' own 'alive': the chapter's examples. -/
import Derived.Test.YteniifabfceocaaDoorShaMac2
import Derived.Test.YteniifabfceocaaDoorShaSame
import Derived.Test.YteniifabfceocaaDoorShaEval2
import Derived.Lib.SlBytesConst
namespace Go.Proofs.YteniifabfceocaaDoor
open Go Go.RowKit

theorem Tabs.alloc {w : World} (h : Tabs w) (o : Obj) : Tabs (w.alloc o) := h.below (belowAlloc w o)
theorem get_of_take {l m : List Int} {n : Nat} (h : l.take n = m) (i : Nat) (x : Int) (hi : i < n) (hx : m[i]? = some x) : (ints .u8 l)[i]? = some (.int .u8 x) := by
  subst h
  rw [List.getElem?_take, if_pos hi] at hx
  simp [ints, hx]
theorem jefe_bytes : Bytes [74, 101, 102, 101] := .of_mem (by decide)
theorem what_bytes : Bytes [119, 104, 97, 116, 32, 100, 111, 32, 121, 97, 32, 119, 97, 110, 116, 32, 102, 111, 114, 32, 110, 111, 116, 104, 105, 110, 103, 63] := .of_mem (by decide)
theorem abc_bytes : Bytes [97, 98, 99] := .of_mem (by decide)
theorem a_bytes : Bytes [97] := .of_mem (by decide)

set_option maxRecDepth 100000 in
set_option maxHeartbeats 1000000 in
theorem alive_any (w : World) (htab : Tabs w) : Calls Tryd.prog 10 #[] w fun e w' => e = .returned (.bool true) ∧ Below w.heap.size w w' := by
  have kc := fun (w : World) (C : Array Value) (n c : Nat) => Lib.run_convert_bytes_const (P := Tryd.prog) w 26 5 C n c Tryd.underlying26 Tryd.underlying5
  have kc2 : ∀ (w : World) (o : Obj) (C : Array Value) (n c : Nat), (convert 26 26 (.slice (some ⟨w.heap.size + 1, 0, none⟩) n c)).run Tryd.prog ((w.alloc o).alloc (.cells C 5)) = .ok (.slice (some ⟨w.heap.size + 1, 0, none⟩) n c) ((w.alloc o).alloc (.cells C 5 (C.size, C.size + 1))) := fun w o C n c => by
    have := kc (w.alloc o) C n c
    simpa using this
  have HT := Lib.hid htab
  have hsum := fun (W : World) (hB : Below w.heap.size w W) => sum_any (some ⟨W.heap.size, 0, none⟩) 3 [97, 98, 99] (W.alloc (.cells (ints .u8 [97, 98, 99]).toArray 5 (3, 4))) (by decide) (by decide) abc_bytes (Lies.lit W _ _ _) ((htab.below hB).alloc _)
  obtain ⟨D, hD⟩ : ∃ D, D = digestL [97, 98, 99] := ⟨_, rfl⟩
  have HD : Hid (D.length = 32 ∧ D.take 4 = [186, 120, 22, 191]) := Lib.hid ⟨by rw [hD, length_digestL], by rw [hD]; exact digest_abc⟩
  rw [← hD] at hsum
  have hmac := fun (W : World) (hB : Below w.heap.size w W) => mac_any (some ⟨W.heap.size, 0, none⟩) (some ⟨W.heap.size + 1, 0, none⟩) 4 28 [74, 101, 102, 101] [119, 104, 97, 116, 32, 100, 111, 32, 121, 97, 32, 119, 97, 110, 116, 32, 102, 111, 114, 32, 110, 111, 116, 104, 105, 110, 103, 63]
    ((W.alloc (.cells (ints .u8 [74, 101, 102, 101]).toArray 5 (4, 5))).alloc (.cells (ints .u8 [119, 104, 97, 116, 32, 100, 111, 32, 121, 97, 32, 119, 97, 110, 116, 32, 102, 111, 114, 32, 110, 111, 116, 104, 105, 110, 103, 63]).toArray 5 (28, 29)))
    (by decide) (by decide) (by decide) (by decide) jefe_bytes what_bytes ((Lies.lit W _ _ _).below (belowAlloc _ _)) (by have := Lies.lit (W.alloc (.cells (ints .u8 [74, 101, 102, 101]).toArray 5 (4, 5))) [119, 104, 97, 116, 32, 100, 111, 32, 121, 97, 32, 119, 97, 110, 116, 32, 102, 111, 114, 32, 110, 111, 116, 104, 105, 110, 103, 63] 5 (28, 29); simpa using this) (((htab.below hB).alloc _).alloc _)
  obtain ⟨E, hE⟩ : ∃ D, D = macL [74, 101, 102, 101] [119, 104, 97, 116, 32, 100, 111, 32, 121, 97, 32, 119, 97, 110, 116, 32, 102, 111, 114, 32, 110, 111, 116, 104, 105, 110, 103, 63] := ⟨_, rfl⟩
  have HE : Hid (E.length = 32 ∧ E.take 2 = [91, 220]) := Lib.hid ⟨by rw [hE, macL, length_digestL], by rw [hE]; exact mac_jefe⟩
  rw [← hE] at hmac
  have hsame := fun (W : World) => same_any (some ⟨W.heap.size, 0, none⟩) (some ⟨W.heap.size + 1, 0, none⟩) 1 1 [97] [97] ((W.alloc (.cells (ints .u8 [97]).toArray 5 (1, 2))).alloc (.cells (ints .u8 [97]).toArray 5 (1, 2)))
    (by decide) (by decide) a_bytes a_bytes ((Lies.lit W _ _ _).below (belowAlloc _ _)) (by have := Lies.lit (W.alloc (.cells (ints .u8 [97]).toArray 5 (1, 2))) [97] 5 (1, 2); simpa using this)
  clear hD hE htab
  go_enter Tryd.func10, Tryd.ntmps10
  go_wp2_with (first
    | (go_at_call 12; refine (hsum w (Below.refl _ w)).mono ?_; rintro e w1 ⟨rfl, hbw⟩; have hB1 := (belowAlloc w _).trans (hbw.mono (belowAlloc w _).size); clear hbw hsum)
    | (refine wpList_alloc_blk rfl (some 1) rfl _ rfl _ z24 ?_; intro g1 w2 hg1 hb1 hgr; have h1B : w.heap.size ≤ g1 := Nat.le_trans hB1.size hg1; have hB2 := hB1.grown hgr hB1.size (by simp); clear hgr; try go_frame)
    | (refine wpList_store_blk rfl none rfl _ (.tmp 1) (.tmp 5) rfl g1 0 (ints .u8 D) rfl rfl _ _ hb1 (by simp [HD.out.1]) (by rw [s24, length_ints, HD.out.1]) (one_ints _ _) ?_; intro w3 hb13 hgr; rw [splice_all _ _ (by simp [HD.out.1])] at hb13; have hB3 := hB2.grown hgr hB2.size (by intro k hk; injection hk with hk; omega); clear hgr; try go_frame)
    | (go_at_call 14; refine (hmac w3 hB3).mono ?_; rintro e w4 ⟨rfl, hbw⟩; have hB34 := below2 hbw; have hB4 := hB3.trans (hB34.mono hB3.size); have hb14 := hb13.below hB34 hb13.lt; clear hbw hB34 hmac)
    | (refine wpList_alloc_blk rfl (some 2) rfl _ rfl _ z24 ?_; intro g2 w5 hg2 hb2 hgr; have h12 : g1 < g2 := Nat.lt_of_lt_of_le hb14.lt hg2; have h2B : w.heap.size ≤ g2 := Nat.le_trans hB4.size hg2; have hB5 := hB4.grown hgr hB4.size (by simp); have hb15 := hb14.grownN hgr; clear hgr; try go_frame)
    | (refine wpList_store_blk rfl none rfl _ (.tmp 2) (.tmp 10) rfl g2 0 (ints .u8 E) rfl rfl _ _ hb2 (by simp [HE.out.1]) (by rw [s24, length_ints, HE.out.1]) (one_ints _ _) ?_; intro w6 hb26 hgr; rw [splice_all _ _ (by simp [HE.out.1])] at hb26; have hB6 := hB5.grown hgr hB5.size (by intro k hk; injection hk with hk; omega); have hb16 := hb15.grown hgr (by intro h; injection h with h; omega); have hc0 := (hb16.cell 0).trans (get_of_take HD.out.2 0 186 (by omega) rfl); have hc1 := (hb16.cell 1).trans (get_of_take HD.out.2 1 120 (by omega) rfl); have hc2 := (hb16.cell 2).trans (get_of_take HD.out.2 2 22 (by omega) rfl); have hc3 := (hb16.cell 3).trans (get_of_take HD.out.2 3 191 (by omega) rfl); have hd0 := (hb26.cell 0).trans (get_of_take HE.out.2 0 91 (by omega) rfl); have hd1 := (hb26.cell 1).trans (get_of_take HE.out.2 1 220 (by omega) rfl); clear hgr hb15 hb2 hb14 hb13 hb1; try go_frame)
    | (go_at_call 27; refine (hsame w6).mono ?_; rintro e w7 ⟨rfl, k7, rfl⟩))
  go_ret
  exact ⟨rfl, below_drewN (hB6.trans ((below2 (Below.refl _ _)).mono hB6.size)) _⟩
end Go.Proofs.YteniifabfceocaaDoor
