/- Two arrays of the same numbers are equal, by the model's own '=='. -/
import Derived.Test.YteniifabfceocaaDoorShaLaw
import Derived.ChangeKeysEq
import Derived.Laws.StructEq
namespace Go.Proofs.YteniifabfceocaaDoor
open Go Go.RowKit

theorem run_eqItems_same {P : Program} (dd : Nat) (e : TypeId) (k : IntKind) (he : P.underlying e = some (.int k)) (hp : P.plainKey e = true) (L : List Int) (w : World) :
    ∀ is : List Nat, (∀ i ∈ is, i < L.length) → (Op.eqItems (dd + 1) e 1 (ints k L).toArray (ints k L).toArray is).run P w = .ok true w
  | [], _ => rfl
  | i :: is, h => by
    have hi : (ints k L).toArray[i * 1]? = some (.int k (L.getD i 0)) := by
      have := get_ints k L i (h i (by simp))
      simpa using this
    have h1 := run_part_plain (P := P) w hp hi
    have h2 := run_equalIn_int (P := P) w dd e k k (L.getD i 0) (L.getD i 0) he
    simp only [Op.eqItems, Sem.run_bind, h1, Result.andThen_ok, h2]
    have := run_eqItems_same dd e k he hp L w is (fun j hj => h j (by simp [hj]))
    simpa using this
theorem run_eql_same {P : Program} (t e : TypeId) (n : Nat) (k : IntKind) (ht : P.underlying t = some (.array n e)) (he : P.underlying e = some (.int k)) (hp : P.plainKey e = true) (hc : P.cellsOf e = 1) (hi : (P.info? e).isSome = true) (L : List Int) (hl : L.length = n) (w : World) :
    (binOp .eql t (.agg (ints k L).toArray) (.agg (ints k L).toArray)).run P w = .ok (.bool true) w := by
  obtain ⟨i, hi'⟩ := Option.isSome_iff_exists.1 hi
  rw [run_eql_struct, show (10000 : Nat) = 9999 + 1 from rfl, run_equalIn_array w 9999 _ _ ht hi', hc, show (9999 : Nat) = 9998 + 1 from rfl, run_eqItems_same 9998 e k he hp L w (List.range n) (fun j hj => by rw [hl]; exact List.mem_range.1 hj)]
  rfl
theorem pk5 : Tryd.prog.plainKey 5 = true := by kernel_rfl
theorem cc5 : Tryd.prog.cellsOf 5 = 1 := by kernel_rfl
theorem i5 : (Tryd.prog.info? 5).isSome = true := by kernel_rfl
theorem eql32 (L : List Int) (hl : L.length = 32) (w : World) : (binOp .eql 24 (.agg (ints .u8 L).toArray) (.agg (ints .u8 L).toArray)).run Tryd.prog w = .ok (.bool true) w :=
  run_eql_same _ _ 32 .u8 Tryd.underlying24 Tryd.underlying5 pk5 cc5 i5 L hl w
end Go.Proofs.YteniifabfceocaaDoor
