/- Kit, Kit2, Kit3, UtfMath: merged. -/
import Derived.Test.YtljdnjidphmkjaaDoorLx02
set_option linter.all false
namespace Go.Proofs.YtljdnjidphmkjaaDoor
open Go Go.RowKit
section
variable {w w' : World} {g : Nat} {t : TypeId} {cs : List Value}
end
theorem set_ints (k : IntKind) (l : List Int) (i : Nat) (x : Int) : (ints k l).set i (.int k x) = ints k (l.set i x) := by simp [ints, List.map_set]
section
variable {P : Program} {w : World} {ops : Array Oper} {rest : List Oper} {o : Oper} {a : Act} {Q : Exit → Act → World → Prop}
end
end Go.Proofs.YtljdnjidphmkjaaDoor
namespace Go.Proofs.YtljdnjidphmkjaaDoor
open Go Go.RowKit
section
variable {P : Program} {w : World} {ops : Array Oper} {rest : List Oper} {o : Oper} {a : Act} {Q : Exit → Act → World → Prop}
end
theorem Src.grown {w w' : World} {g : Nat} {A : Option Addr} {xs : List Int} (h : Src w g A xs) {row : Option Nat} (hb : w.grownBy w' row) (hr : row = none ∨ row = some g) : Src w' g A xs := fun hp => by
  obtain ⟨b, o, e, hne, hlt, hc⟩ := h hp
  refine ⟨b, o, e, hne, Nat.lt_of_lt_of_le hlt hb.size, fun j v hv => ?_⟩
  rw [World.cell?_of_block (w := w) (hb.block b hlt (by rcases hr with rfl | rfl <;> simp [hne]))]
  exact hc j v hv
theorem Src.below {w w' : World} {g : Nat} {A : Option Addr} {xs : List Int} (h : Src w g A xs) (hb : Below w.heap.size w w') : Src w' g A xs := h.grown (grownBy_of_below hb none) (.inl rfl)
end Go.Proofs.YtljdnjidphmkjaaDoor
namespace Go.Proofs.YtljdnjidphmkjaaDoor
open Go Go.RowKit
theorem Lies.of {w : World} {A : Option Addr} {xs : List Int} {g : Nat} (h : Src w g A xs) : Lies w A xs := fun hp => by
  obtain ⟨b, o, e, _, hlt, hc⟩ := h hp
  exact ⟨b, o, e, by omega, hlt, hc⟩
theorem Lies.below {w w' : World} {A : Option Addr} {xs : List Int} (h : Lies w A xs) (hb : Below w.heap.size w w') : Lies w' A xs := Lies.of (Src.below h hb)
theorem belowBytes (w : World) (e : TypeId) (s : ByteArray) : Below w.heap.size w (Lib.bytesWorld w e s) :=
  ⟨rfl, rfl, rfl, by rw [Lib.bytesWorld_size]; omega, fun k hk => Lib.bytesWorld_at_old w e s k hk⟩
theorem liesBytes (w : World) (e : TypeId) (s : ByteArray) : Lies (Lib.bytesWorld w e s) (some ⟨w.heap.size, 0, none⟩) (strL s) := fun _ =>
  ⟨w.heap.size, 0, rfl, by rw [Lib.bytesWorld_size]; omega, by rw [Lib.bytesWorld_size]; omega, fun j v hv => by
    have hj : j < s.size := by
      have := (List.getElem?_eq_some_iff.1 hv).1
      rw [length_ints, length_strL] at this; exact this
    rw [Nat.zero_add, Lib.bytesWorld_cell w e s j hj, ← hv]
    have hj2 : j < s.data.toList.length := by simpa using hj
    simp [ints, strL, List.getD, hj]⟩
section
variable {P : Program} {w : World} {ops : Array Oper} {rest : List Oper} {o : Oper} {a : Act} {Q : Exit → Act → World → Prop}
/-- '[]byte(s)' of a string. -/
theorem wpList_convert_str (hgd : o.guard = none) (d : Option Tmp) (hdst : o.dst = d) (src dst e : TypeId) (x : Operand) (ho : o.op = .convert src dst x) (s : ByteArray) (hx : a.eval x = .string s)
    {u : TypeDesc} (hs : P.underlying src = some u) (hd : P.underlying dst = some (.slice e)) (he : P.underlying e = some (.int .u8))
    (h : ∀ A c w', Lies w' A (strL s) → s.size ≤ c → Below w.heap.size w w' → wpList P ops Q rest (a.put d (.slice A s.size c)) w') : wpList P ops Q (o :: rest) a w := by
  subst hdst
  refine wpList_plain hgd fun K hK => ?_
  unfold Oper.wp execOp
  simp only [ho, hx, Sem.run_bind, Lib.run_convert_string_bytes w src dst e s hs hd he, Result.andThen_ok]
  exact hK _ _ (h _ _ _ (liesBytes w e s) (grownCap_ge w s.size 0 e) (belowBytes w e s))
end
end Go.Proofs.YtljdnjidphmkjaaDoor
namespace Go.Proofs.YtljdnjidphmkjaaDoor
open Go Go.RowKit
theorem badU_le : ∀ (n : Nat) (l : List Int), l.length ≤ n → badU l ≤ l.length
  | 0, l, h => by
    obtain rfl := List.eq_nil_of_length_eq_zero (Nat.le_zero.1 h)
    exact Nat.le_refl _
  | n + 1, l, hl => by
    by_cases h : (nxL l).1 = -1
    · rw [badU_stop h]; omega
    · have hf := nx_found h
      have := badU_le n (l.drop (nxL l).2) (by rw [List.length_drop]; omega)
      rw [List.length_drop] at this
      rw [badU_go h]; omega
theorem badU_le' (l : List Int) : badU l ≤ l.length := badU_le _ l (Nat.le_refl _)
end Go.Proofs.YtljdnjidphmkjaaDoor
