/- What every law of layer 1 wants: strings as bytes, and their conversion. -/
import Derived.Test.YtffdbhppbbkbbaaDoorShaAlive
import Derived.Lib.ConvBytes
namespace Go.Proofs.YtffdbhppbbkbbaaDoor
open Go Go.RowKit

/-- A string's bytes, as numbers. -/
def strL (s : ByteArray) : List Int := s.data.toList.map fun b => (b.toNat : Int)
theorem length_strL (s : ByteArray) : (strL s).length = s.size := by simp [strL]
theorem strL_bd (s : ByteArray) : Bytes (strL s) := .of_mem fun x hx => by
  obtain ⟨b, _, rfl⟩ := List.mem_map.1 hx
  have := b.toNat_lt
  omega
theorem strL_inj {a b : ByteArray} (h : strL a = strL b) : a = b := by
  have : a.data.toList = b.data.toList := by
    refine (List.map_inj_right (f := fun b : UInt8 => (b.toNat : Int)) ?_).1 h
    intro x y hxy
    exact UInt8.toNat_inj.1 (by omega)
  cases a; cases b
  congr 1
  exact Array.toList_inj.1 this
theorem belowBytes (w : World) (e : TypeId) (s : ByteArray) : Below w.heap.size w (Lib.bytesWorld w e s) :=
  ⟨rfl, rfl, rfl, by rw [Lib.bytesWorld_size]; omega, fun k hk => Lib.bytesWorld_at_old w e s k hk⟩
theorem liesBytes (w : World) (e : TypeId) (s : ByteArray) : Lies (Lib.bytesWorld w e s) (some ⟨w.heap.size, 0, none⟩) (strL s) := fun _ =>
  ⟨w.heap.size, 0, rfl, by rw [Lib.bytesWorld_size]; omega, by rw [Lib.bytesWorld_size]; omega, fun j v hv => by
    have hj : j < s.size := by
      have := (List.getElem?_eq_some_iff.1 hv).1
      rw [length_ints, length_strL] at this; exact this
    rw [Nat.zero_add, Lib.bytesWorld_cell w e s j hj, ← hv]
    have hj2 : j < s.data.toList.length := by simpa using hj
    simp [ints, strL, List.getD, hj]⟩

section
variable {P : Program} {w : World} {ops : Array Oper} {rest : List Oper} {o : Oper} {a : Act} {Q : Exit → Act → World → Prop}
/-- '[]byte(s)' of a string. -/
theorem wpList_convert_str (hgd : o.guard = none) (d : Option Tmp) (hdst : o.dst = d) (src dst e : TypeId) (x : Operand) (ho : o.op = .convert src dst x) (s : ByteArray) (hx : a.eval x = .string s)
    {u : TypeDesc} (hs : P.underlying src = some u) (hd : P.underlying dst = some (.slice e)) (he : P.underlying e = some (.int .u8))
    (h : ∀ A c w', Lies w' A (strL s) → s.size ≤ c → Below w.heap.size w w' → wpList P ops Q rest (a.put d (.slice A s.size c)) w') : wpList P ops Q (o :: rest) a w := by
  subst hdst
  refine wpList_plain hgd fun K hK => ?_
  unfold Oper.wp execOp
  simp only [ho, hx, Sem.run_bind, Lib.run_convert_string_bytes w src dst e s hs hd he, Result.andThen_ok]
  exact hK _ _ (h _ _ _ (liesBytes w e s) (grownCap_ge w s.size 0 e) (belowBytes w e s))
end
theorem eq_toList (s t : ByteArray) : (s.toList == t.toList) = decide (s = t) := by
  rw [Bool.eq_iff_iff, beq_iff_eq, decide_eq_true_eq]
  constructor
  · intro h
    rw [ByteArray.toList_eq, ByteArray.toList_eq] at h
    cases s; cases t
    congr 1
    exact Array.toList_inj.1 h
  · rintro rfl; rfl
theorem same_str (A B : Option Addr) (c d : Nat) (s t : ByteArray) (w : World) (hs : s.size ≤ 9223372036854775807) (ht : t.size ≤ 9223372036854775807) (hl : Lies w A (strL s)) (hl2 : Lies w B (strL t)) :
    Calls Tryd.prog 17 #[.slice A s.size c, .slice B t.size d] w fun e w' => e = .returned (.bool (s.toList == t.toList)) ∧ Below w.heap.size w w' := by
  have h := same_any A B c d (strL s) (strL t) w (by rw [length_strL]; exact hs) (by rw [length_strL]; exact ht) (strL_bd s) (strL_bd t) hl hl2
  rw [length_strL, length_strL] at h
  refine h.mono fun e w' ⟨he, k, hw⟩ => ⟨?_, ?_⟩
  · rw [he, eq_toList]
    by_cases h : s = t
    · rw [decide_eq_true h, decide_eq_true (by rw [h])]
    · rw [decide_eq_false h, decide_eq_false (fun hh => h (strL_inj hh))]
  · rw [hw]; exact below_drewN (Below.refl _ _) k

set_option maxRecDepth 100000 in
set_option maxHeartbeats 1000000 in
theorem lawSame_any (s t : ByteArray) (w : World) (hs : s.size ≤ 9223372036854775807) (ht : t.size ≤ 9223372036854775807) (htab : Tabs w) :
    Calls Tryd.prog 6 #[.string s, .string t] w fun e w' => e = .returned (.bool true) ∧ Below w.heap.size w w' := by
  have hal := alive_any w htab
  have hconv := fun (W : World) => Lib.run_convert_string_bytes (P := Tryd.prog) W 9 26 5 s Tryd.underlying9 Tryd.underlying26 Tryd.underlying5
  go_enter Tryd.func6, Tryd.ntmps6
  go_wp2_with (first
    | (go_at_call 8; refine hal.mono ?_; rintro e w1 ⟨rfl, hB1⟩)
    | (refine wpList_convert_str rfl (some 8) rfl _ _ 5 (.tmp 7) rfl s rfl Tryd.underlying9 Tryd.underlying26 Tryd.underlying5 ?_; intro A1 c1 w2 hl1 hc1 hb; have hB2 := hB1.trans (hb.mono hB1.size); clear hb; try go_frame)
    | (refine wpList_convert_str rfl (some 10) rfl _ _ 5 (.tmp 9) rfl t rfl Tryd.underlying9 Tryd.underlying26 Tryd.underlying5 ?_; intro A2 c2 w3 hl2 hc2 hb; have hB3 := hB2.trans (hb.mono hB2.size); have hl1' := hl1.below hb; clear hb; try go_frame)
    | (go_at_call 17; refine (same_str A1 A2 c1 c2 s t w3 hs ht hl1' hl2).mono ?_; rintro e w4 ⟨rfl, hb⟩; have hB4 := hB3.trans (hb.mono hB3.size); clear hb hl1' hl2)
    | (go_at_call 17; refine (same_str _ _ _ _ s s _ hs hs ((liesBytes w4 _ s).below (belowBytes _ _ s)) (liesBytes _ _ s)).mono ?_; rintro e w5 ⟨rfl, hb⟩))
  go_ret
  have h1 := (belowBytes w4 5 s).trans ((belowBytes _ 5 s).mono (belowBytes w4 5 s).size)
  exact ⟨rfl, hB4.trans ((h1.trans (hb.mono h1.size)).mono hB4.size)⟩
end Go.Proofs.YtffdbhppbbkbbaaDoor
