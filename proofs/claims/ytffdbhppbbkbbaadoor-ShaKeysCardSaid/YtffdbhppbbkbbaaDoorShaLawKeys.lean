/- The walk of the law ShaKeys. -/
import Derived.Test.YtffdbhppbbkbbaaDoorShaEq
import Derived.Deep.RegionHeld3
namespace Go.Proofs.YtffdbhppbbkbbaaDoor
open Go Go.RowKit

theorem mac_str (A B : Option Addr) (c d : Nat) (key s : ByteArray) (w : World) (hk : key.size ≤ 1000000) (hs : s.size ≤ 1000000) (hc : key.size ≤ c) (hd : s.size ≤ d) (hl : Lies w A (strL key)) (hl2 : Lies w B (strL s)) (htab : Tabs w) :
    Calls Tryd.prog 12 #[.slice A key.size c, .slice B s.size d] w fun e w' => e = .returned (.agg (ints .u8 (macL (strL key) (strL s))).toArray) ∧ Below w.heap.size w w' := by
  have h := mac_any A B c d (strL key) (strL s) w (by rw [length_strL]; exact hc) (by rw [length_strL]; exact hd) (by rw [length_strL]; omega) (by rw [length_strL]; omega) (strL_bd _) (strL_bd _) hl hl2 htab
  rw [length_strL, length_strL] at h
  exact h
theorem sum_str (A : Option Addr) (c : Nat) (s : ByteArray) (w : World) (hs : s.size ≤ 1000000) (hc : s.size ≤ c) (hl : Lies w A (strL s)) (htab : Tabs w) :
    Calls Tryd.prog 10 #[.slice A s.size c] w fun e w' => e = .returned (.agg (ints .u8 (digestL (strL s))).toArray) ∧ Below w.heap.size w w' := by
  have h := sum_any A c (strL s) w (by rw [length_strL]; exact hc) (by rw [length_strL]; omega) (strL_bd _) hl htab
  rw [length_strL] at h
  exact h
theorem length_macL (k b : List Int) : (macL k b).length = 32 := length_digestL _
theorem mac_long (key b : List Int) (h : 64 < key.length) : macL (digestL key) b = macL key b := by
  have e : keyL (digestL key) = keyL key := by
    rw [keyL, if_neg (by rw [length_digestL]; omega), keyL, if_pos h]
  rw [macL, macL, e]
theorem mac_short (key b : List Int) (h : key.length < 64) : macL (key ++ [0]) b = macL key b := by
  have e : keyL (key ++ [0]) = keyL key := by
    rw [keyL, if_neg (by rw [List.length_append]; simp; omega), keyL, if_neg (by omega)]
    simp only [splice, List.take_zero, List.nil_append, Nat.zero_add, List.length_append, List.length_cons, List.length_nil, List.append_assoc, List.drop_replicate]
    congr 1
    obtain ⟨k, hk⟩ : ∃ k, 64 - key.length = k + 1 := ⟨63 - key.length, by omega⟩
    rw [hk, show 64 - (key.length + 1) = k by omega, List.replicate_succ]
    rfl
  rw [macL, macL, e]
theorem strL_push (key : ByteArray) : strL (key ++ ⟨#[0]⟩) = strL key ++ [0] := by
  simp [strL]

/-- The 32 cells from the head of block g on hold what V tells: behind a name, so that the walk's simp does not look into it. -/
def RBV (g : Nat) (V : Nat → Value) (W : World) : Prop := ∀ i, i < 32 → W.cell? ⟨g, i, none⟩ = some (V i)
theorem RBV.cells {g : Nat} {V : Nat → Value} (W : World) (h : RBV g V W) (i : Nat) (hi : i < 32) : W.cell? ⟨g, i, none⟩ = some (V i) := h i hi
theorem RBV.below {g : Nat} {V : Nat → Value} {W W' : World} (h : RBV g V W) (hb : Below W.heap.size W W') : RBV g V W' := fun i hi => by
  have h0 := h i hi
  rw [hb.cell (block_lt_of_cell h0)]; exact h0
theorem RBV.bytes {g : Nat} {V : Nat → Value} (W : World) (h : RBV g V W) (e : TypeId) (s : ByteArray) : RBV g V (Lib.bytesWorld W e s) := h.below (belowBytes W e s)
theorem RBV.blk {g : Nat} {M : List Int} {W : World} {t : TypeId} (h : Blk W g t (ints .u8 M)) (hM : M.length = 32) : RBV g (fun i => (ints .u8 M).getD i undef) W := fun i hi => by
  show _ = some ((ints .u8 M).getD i undef)
  rw [h.cell, List.getD_eq_getElem?_getD, List.getElem?_eq_getElem (by rw [length_ints]; omega)]; rfl
theorem agg32 (M : List Int) (hM : M.length = 32) (V : Nat → Value) (hV : V = fun i => (ints .u8 M).getD i undef) : (ints .u8 M).toArray = #[V 0, V 1, V 2, V 3, V 4, V 5, V 6, V 7, V 8, V 9, V 10, V 11, V 12, V 13, V 14, V 15, V 16, V 17, V 18, V 19, V 20, V 21, V 22, V 23, V 24, V 25, V 26, V 27, V 28, V 29, V 30, V 31] := by
  subst hV
  have hl : (ints .u8 M).length = 32 := by rw [length_ints, hM]
  generalize ints .u8 M = L at hl
  match L, hl with
  | [x0, x1, x2, x3, x4, x5, x6, x7, x8, x9, x10, x11, x12, x13, x14, x15, x16, x17, x18, x19, x20, x21, x22, x23, x24, x25, x26, x27, x28, x29, x30, x31], _ => rfl
set_option maxRecDepth 100000 in
set_option maxHeartbeats 1000000 in
theorem lawKeys_big (key s : ByteArray) (w : World) (hk : key.size ≤ 9223372036854775807) (hs : s.size ≤ 9223372036854775807) (htab : Tabs w) (h : 5000 < key.size ∨ 20000 < s.size) :
    Calls Tryd.prog 7 #[.string key, .string s] w fun e w' => e = .returned (.bool true) ∧ Below w.heap.size w w' := by
  have hal := alive_any w htab
  by_cases h1 : 5000 < key.size
  · clear h
    go_enter Tryd.func7, Tryd.ntmps7
    go_wp2_with (go_at_call 8; refine hal.mono ?_; rintro e w1 ⟨rfl, hB1⟩)
    go_ret
    exact ⟨rfl, hB1⟩
  · have h2 : 20000 < s.size := by omega
    clear h
    go_enter Tryd.func7, Tryd.ntmps7
    go_wp2_with (go_at_call 8; refine hal.mono ?_; rintro e w1 ⟨rfl, hB1⟩)
    go_ret
    exact ⟨rfl, hB1⟩
end Go.Proofs.YtffdbhppbbkbbaaDoor
