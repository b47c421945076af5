/- The walks of errors.as and errors.As at the targets *api.Errno and **api.At, of errors that are an api.Errno or an *api.At round one. -/
import Derived.Test.YtdgpphihjeffcaaDoorErrE
namespace Go.Proofs.YtdgpphihjeffcaaDoor
open Go Go.RowKit Go.Extern.Stop Go.Stop Go.Extern
/-- What a hit leaves: the variable at t holds v; below its block all is as it was. -/
def Hit (t : Addr) (v : Value) (w : World) (e : Ending) (w' : World) : Prop := e = .returned (.bool true) ∧ w'.cell? t = some v ∧ Below t.block w w'
def Miss (w : World) (e : Ending) (w' : World) : Prop := e = .returned (.bool false) ∧ Below w.heap.size w w'

set_option maxHeartbeats 4000000 in
theorem asHitN (n : Int) (t a : Addr) (tg old : Value) (w : World) (ha : w.cell? a = some (.pointer (some t))) (ht : w.cell? t = some old) (hf : w.frozen? t = false) :
    Calls Tryd.prog 37 #[.iface 33 (.int .i64 n), tg, .agg #[.pointer (some ⟨4, 41, none⟩), .pointer (some a), .int .u64 150], .iface 86 (.agg #[.pointer (some ⟨4, 33, none⟩)])] w (Hit t (.int .i64 n) w) := by
  have h55 := @run_callFunc_extern Tryd.prog 34 _ (fun args => ReflectliteValue.unpack (args.getD 0 (.tuple #[]))) Tryd.func34 (by kernel_rfl) (by kernel_rfl) (by kernel_rfl) (by kernel_rfl)
  have h62 := @run_callFunc_extern Tryd.prog 45 _ ReflectliteType.typeOf Tryd.func45 (by kernel_rfl) (by kernel_rfl) (by kernel_rfl) (by kernel_rfl)
  have h91 := @run_callFunc_extern Tryd.prog 90 _ (ReflectliteType.relation "AssignableTo" ReflectliteType.assignableTo) Tryd.func90 (by kernel_rfl) (by kernel_rfl) (by kernel_rfl) (by kernel_rfl)
  have h63 := @run_callFunc_extern Tryd.prog 46 _ (ReflectliteValue.method (ReflectliteValue.valueError "reflectlite.Value.Elem" 0) ReflectliteValue.elem) Tryd.func46 (by kernel_rfl) (by kernel_rfl) (by kernel_rfl) (by kernel_rfl)
  have h64 := @run_callFunc_extern Tryd.prog 47 _ ReflectliteValue.set Tryd.func47 (by kernel_rfl) (by kernel_rfl) (by kernel_rfl) (by kernel_rfl)
  have tO := typeOfN
  have mA := methodAssignableTo
  have aN := assignNN
  have vN := valueOfN
  have hal := lt_of_cell ha
  have htl := lt_of_cell ht
  have el := elemVNT a t (w.alloc (.cells #[.pointer (some ⟨4, 41, none⟩), .pointer (some a), .int .u64 150] 61)) (by rw [World.cell?_alloc_lt _ _ a hal]; exact ha)
  have st := setNE t ⟨w.heap.size + 1, 0, none⟩ n old ((w.alloc (.cells #[.pointer (some ⟨4, 41, none⟩), .pointer (some a), .int .u64 150] 61)).alloc (.cells #[(.int .i64 n)] 33))
    (by rw [World.cell?_alloc_at _ _ _ _ (by simp)]; rfl)
    (by rw [World.cell?_alloc_lt _ _ t (by simp; omega), World.cell?_alloc_lt _ _ t htl]; exact ht)
    (by rw [World.frozen?_alloc_old _ _ t (by simp; omega), World.frozen?_alloc_old _ _ t (Nat.ne_of_lt htl)]; exact hf)
  have HF : Hid (Hit t (.int .i64 n) w (.returned (.bool true)) (((w.alloc (.cells #[.pointer (some ⟨4, 41, none⟩), .pointer (some a), .int .u64 150] 61)).alloc (.cells #[(.int .i64 n)] 33)).setCell t (.int .i64 n))) := Lib.hid ⟨rfl, World.cell?_setCell_same _ _ _ (u := old) (by rw [World.cell?_alloc_lt _ _ t (by simp; omega), World.cell?_alloc_lt _ _ t htl]; exact ht), (((Below.refl _ _).alloc (by omega) _).alloc (by simp; omega) _).setCell (Nat.le_refl _) _⟩
  clear ha ht hf
  go_enter Tryd.func37, Tryd.ntmps37
  go_wp2
  refine wp_loop_rounds 1 ?_
  rw [rounds_succ]
  go_wp2
  go_ret
  exact HF.out

end Go.Proofs.YtdgpphihjeffcaaDoor
