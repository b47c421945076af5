/- What every law of layer 1 wants: strings as bytes, and their conversion. -/
import Derived.Test.YteniifabfceocaaDoorShaAlive
import Derived.Lib.ConvBytes
namespace Go.Proofs.YteniifabfceocaaDoor
open Go Go.RowKit

theorem same_str (A B : Option Addr) (c d : Nat) (s t : ByteArray) (w : World) (hs : s.size ≤ 9223372036854775807) (ht : t.size ≤ 9223372036854775807) (hl : Lies w A (strL s)) (hl2 : Lies w B (strL t)) :
    Calls Tryd.prog 27 #[.slice A s.size c, .slice B t.size d] w fun e w' => e = .returned (.bool (s.toList == t.toList)) ∧ Below w.heap.size w w' := by
  have h := same_any A B c d (strL s) (strL t) w (by rw [length_strL]; exact hs) (by rw [length_strL]; exact ht) (strL_bd s) (strL_bd t) hl hl2
  rw [length_strL, length_strL] at h
  refine h.mono fun e w' ⟨he, k, hw⟩ => ⟨?_, ?_⟩
  · rw [he, eq_toList]
    by_cases h : s = t
    · rw [decide_eq_true h, decide_eq_true (by rw [h])]
    · rw [decide_eq_false h, decide_eq_false (fun hh => h (strL_inj hh))]
  · rw [hw]; exact below_drewN (Below.refl _ _) k

end Go.Proofs.YteniifabfceocaaDoor
