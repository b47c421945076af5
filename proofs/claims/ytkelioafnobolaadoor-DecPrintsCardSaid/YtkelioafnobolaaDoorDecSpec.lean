/- What is asked of package dec, as contracts' posts. -/
import Derived.Test.YtkelioafnobolaaDoorDecRefRead
import Derived.Test.YtkelioafnobolaaDoorErrNum
namespace Go.Proofs.YtkelioafnobolaaDoor
open Go Go.RowKit

/-- An error with a place: an At in a block of its own. -/
def AtErr (pos n : Int) (w : World) (v : Value) (w' : World) : Prop :=
  ∃ b, v = .iface 39 (.pointer (some ⟨b, 0, none⟩)) ∧ w'.cell? ⟨b, 0, none⟩ = some (.int .i64 pos) ∧ w'.cell? ⟨b, 0 + 1, none⟩ = some (.iface 40 (.int .i64 n)) ∧ Below w.heap.size w w'
def ReadWrong (pos : Int) (w : World) (e : Ending) (w' : World) : Prop := ∃ v, e = .returned (.tuple #[.int .i64 0, v]) ∧ AtErr pos 40 w v w'
def ReadTells (l : List Int) (least most : Int) (w : World) (e : Ending) (w' : World) : Prop :=
  (formL l = false ∧ ReadWrong (leadL l : Int) w e w') ∨
  (formL l = true ∧ fitL l least most = false ∧ e = .returned (.tuple #[.int .i64 0, .iface 40 (.int .i64 41)]) ∧ Below w.heap.size w w') ∨
  (formL l = true ∧ fitL l least most = true ∧ e = .returned (.tuple #[.int .i64 (numL l), .nilIface]) ∧ Below w.heap.size w w')
end Go.Proofs.YtkelioafnobolaaDoor
