/- The walks of errors.as and errors.As at the targets *api.Errno and **api.At, of errors that are an api.Errno or an *api.At round one. -/
import Derived.Test.YtcjnhgcopdofhaaDoorErr
namespace Go.Proofs.YtcjnhgcopdofhaaDoor
open Go Go.RowKit Go.Extern.Stop Go.Stop Go.Extern

theorem unwrap_any (b o : Nat) (v : Value) (w : World) (h : w.cell? ⟨b, o + 1, none⟩ = some v) :
    Calls Tryd.prog 101 #[.pointer (some ⟨b, o, none⟩)] w fun e w' => e = .returned v ∧ w = w' := by
  go_enter Tryd.func101, Tryd.ntmps101
  go_wp2
  go_ret
  exact ⟨rfl, rfl⟩

/-- What a hit leaves: the variable at t holds v; below its block all is as it was. -/
def Hit (t : Addr) (v : Value) (w : World) (e : Ending) (w' : World) : Prop := e = .returned (.bool true) ∧ w'.cell? t = some v ∧ Below t.block w w'
def Miss (w : World) (e : Ending) (w' : World) : Prop := e = .returned (.bool false) ∧ Below w.heap.size w w'

set_option maxHeartbeats 4000000 in
theorem asHitN (n : Int) (t a : Addr) (tg old : Value) (w : World) (ha : w.cell? a = some (.pointer (some t))) (ht : w.cell? t = some old) (hf : w.frozen? t = false) :
    Calls Tryd.prog 43 #[.iface 46 (.int .i64 n), tg, .agg #[.pointer (some ⟨5, 54, none⟩), .pointer (some a), .int .u64 150], .iface 98 (.agg #[.pointer (some ⟨5, 46, none⟩)])] w (Hit t (.int .i64 n) w) := by
  have h55 := @run_callFunc_extern Tryd.prog 40 _ (fun args => ReflectliteValue.unpack (args.getD 0 (.tuple #[]))) Tryd.func40 (by kernel_rfl) (by kernel_rfl) (by kernel_rfl) (by kernel_rfl)
  have h62 := @run_callFunc_extern Tryd.prog 55 _ ReflectliteType.typeOf Tryd.func55 (by kernel_rfl) (by kernel_rfl) (by kernel_rfl) (by kernel_rfl)
  have h91 := @run_callFunc_extern Tryd.prog 107 _ (ReflectliteType.relation "AssignableTo" ReflectliteType.assignableTo) Tryd.func107 (by kernel_rfl) (by kernel_rfl) (by kernel_rfl) (by kernel_rfl)
  have h63 := @run_callFunc_extern Tryd.prog 56 _ (ReflectliteValue.method (ReflectliteValue.valueError "reflectlite.Value.Elem" 0) ReflectliteValue.elem) Tryd.func56 (by kernel_rfl) (by kernel_rfl) (by kernel_rfl) (by kernel_rfl)
  have h64 := @run_callFunc_extern Tryd.prog 57 _ ReflectliteValue.set Tryd.func57 (by kernel_rfl) (by kernel_rfl) (by kernel_rfl) (by kernel_rfl)
  have tO := typeOfN
  have mA := methodAssignableTo
  have aN := assignNN
  have vN := valueOfN
  have hal := lt_of_cell ha
  have htl := lt_of_cell ht
  have el := elemVNT a t (w.alloc (.cells #[.pointer (some ⟨5, 54, none⟩), .pointer (some a), .int .u64 150] 80)) (by rw [World.cell?_alloc_lt _ _ a hal]; exact ha)
  have st := setNE t ⟨w.heap.size + 1, 0, none⟩ n old ((w.alloc (.cells #[.pointer (some ⟨5, 54, none⟩), .pointer (some a), .int .u64 150] 80)).alloc (.cells #[(.int .i64 n)] 46))
    (by rw [World.cell?_alloc_at _ _ _ _ (by simp)]; rfl)
    (by rw [World.cell?_alloc_lt _ _ t (by simp; omega), World.cell?_alloc_lt _ _ t htl]; exact ht)
    (by rw [World.frozen?_alloc_old _ _ t (by simp; omega), World.frozen?_alloc_old _ _ t (Nat.ne_of_lt htl)]; exact hf)
  have HF : Hid (Hit t (.int .i64 n) w (.returned (.bool true)) (((w.alloc (.cells #[.pointer (some ⟨5, 54, none⟩), .pointer (some a), .int .u64 150] 80)).alloc (.cells #[(.int .i64 n)] 46)).setCell t (.int .i64 n))) := Lib.hid ⟨rfl, World.cell?_setCell_same _ _ _ (u := old) (by rw [World.cell?_alloc_lt _ _ t (by simp; omega), World.cell?_alloc_lt _ _ t htl]; exact ht), (((Below.refl _ _).alloc (by omega) _).alloc (by simp; omega) _).setCell (Nat.le_refl _) _⟩
  clear ha ht hf
  go_enter Tryd.func43, Tryd.ntmps43
  go_wp2
  refine wp_loop_rounds 1 ?_
  rw [rounds_succ]
  go_wp2
  go_ret
  exact HF.out

set_option maxHeartbeats 4000000 in
theorem asHitA (p : Addr) (t a : Addr) (tg old : Value) (w : World) (ha : w.cell? a = some (.pointer (some t))) (ht : w.cell? t = some old) (hf : w.frozen? t = false) :
    Calls Tryd.prog 43 #[.iface 55 (.pointer (some p)), tg, .agg #[.pointer (some ⟨5, 56, none⟩), .pointer (some a), .int .u64 150], .iface 98 (.agg #[.pointer (some ⟨5, 55, none⟩)])] w (Hit t (.pointer (some p)) w) := by
  have h55 := @run_callFunc_extern Tryd.prog 40 _ (fun args => ReflectliteValue.unpack (args.getD 0 (.tuple #[]))) Tryd.func40 (by kernel_rfl) (by kernel_rfl) (by kernel_rfl) (by kernel_rfl)
  have h62 := @run_callFunc_extern Tryd.prog 55 _ ReflectliteType.typeOf Tryd.func55 (by kernel_rfl) (by kernel_rfl) (by kernel_rfl) (by kernel_rfl)
  have h91 := @run_callFunc_extern Tryd.prog 107 _ (ReflectliteType.relation "AssignableTo" ReflectliteType.assignableTo) Tryd.func107 (by kernel_rfl) (by kernel_rfl) (by kernel_rfl) (by kernel_rfl)
  have h63 := @run_callFunc_extern Tryd.prog 56 _ (ReflectliteValue.method (ReflectliteValue.valueError "reflectlite.Value.Elem" 0) ReflectliteValue.elem) Tryd.func56 (by kernel_rfl) (by kernel_rfl) (by kernel_rfl) (by kernel_rfl)
  have h64 := @run_callFunc_extern Tryd.prog 57 _ ReflectliteValue.set Tryd.func57 (by kernel_rfl) (by kernel_rfl) (by kernel_rfl) (by kernel_rfl)
  have tO := typeOfA
  have mA := methodAssignableTo
  have aN := assignAA
  have vN := valueOfA
  have hal := lt_of_cell ha
  have htl := lt_of_cell ht
  have el := elemVAT a t (w.alloc (.cells #[.pointer (some ⟨5, 56, none⟩), .pointer (some a), .int .u64 150] 80)) (by rw [World.cell?_alloc_lt _ _ a hal]; exact ha)
  have st := setAE t ⟨w.heap.size + 1, 0, none⟩ p old ((w.alloc (.cells #[.pointer (some ⟨5, 56, none⟩), .pointer (some a), .int .u64 150] 80)).alloc (.cells #[(.pointer (some p))] 55))
    (by rw [World.cell?_alloc_at _ _ _ _ (by simp)]; rfl)
    (by rw [World.cell?_alloc_lt _ _ t (by simp; omega), World.cell?_alloc_lt _ _ t htl]; exact ht)
    (by rw [World.frozen?_alloc_old _ _ t (by simp; omega), World.frozen?_alloc_old _ _ t (Nat.ne_of_lt htl)]; exact hf)
  have HF : Hid (Hit t (.pointer (some p)) w (.returned (.bool true)) (((w.alloc (.cells #[.pointer (some ⟨5, 56, none⟩), .pointer (some a), .int .u64 150] 80)).alloc (.cells #[(.pointer (some p))] 55)).setCell t (.pointer (some p)))) := Lib.hid ⟨rfl, World.cell?_setCell_same _ _ _ (u := old) (by rw [World.cell?_alloc_lt _ _ t (by simp; omega), World.cell?_alloc_lt _ _ t htl]; exact ht), (((Below.refl _ _).alloc (by omega) _).alloc (by simp; omega) _).setCell (Nat.le_refl _) _⟩
  clear ha ht hf
  go_enter Tryd.func43, Tryd.ntmps43
  go_wp2
  refine wp_loop_rounds 1 ?_
  rw [rounds_succ]
  go_wp2
  go_ret
  exact HF.out

set_option maxHeartbeats 4000000 in
theorem asAtN (n : Int) (t a : Addr) (tg old : Value) (w : World) (b o : Nat) (he : w.cell? ⟨b, o + 1, none⟩ = some (.iface 46 (.int .i64 n))) (ha : w.cell? a = some (.pointer (some t))) (ht : w.cell? t = some old) (hf : w.frozen? t = false) :
    Calls Tryd.prog 43 #[.iface 55 (.pointer (some ⟨b, o, none⟩)), tg, .agg #[.pointer (some ⟨5, 54, none⟩), .pointer (some a), .int .u64 150], .iface 98 (.agg #[.pointer (some ⟨5, 46, none⟩)])] w (Hit t (.int .i64 n) w) := by
  have h55 := @run_callFunc_extern Tryd.prog 40 _ (fun args => ReflectliteValue.unpack (args.getD 0 (.tuple #[]))) Tryd.func40 (by kernel_rfl) (by kernel_rfl) (by kernel_rfl) (by kernel_rfl)
  have h62 := @run_callFunc_extern Tryd.prog 55 _ ReflectliteType.typeOf Tryd.func55 (by kernel_rfl) (by kernel_rfl) (by kernel_rfl) (by kernel_rfl)
  have h91 := @run_callFunc_extern Tryd.prog 107 _ (ReflectliteType.relation "AssignableTo" ReflectliteType.assignableTo) Tryd.func107 (by kernel_rfl) (by kernel_rfl) (by kernel_rfl) (by kernel_rfl)
  have h63 := @run_callFunc_extern Tryd.prog 56 _ (ReflectliteValue.method (ReflectliteValue.valueError "reflectlite.Value.Elem" 0) ReflectliteValue.elem) Tryd.func56 (by kernel_rfl) (by kernel_rfl) (by kernel_rfl) (by kernel_rfl)
  have h64 := @run_callFunc_extern Tryd.prog 57 _ ReflectliteValue.set Tryd.func57 (by kernel_rfl) (by kernel_rfl) (by kernel_rfl) (by kernel_rfl)
  have tO := typeOfN
  have mA := methodAssignableTo
  have aN := assignNN
  have vN := valueOfN
  have tA := typeOfA
  have aAN := assignAN
  have nA := noAsA
  have hU := hasUnwrap
  have mU := methodUnwrap
  have hu := unwrap_any b o _ (w.alloc (.cells #[.pointer (some ⟨5, 54, none⟩), .pointer (some a), .int .u64 150] 80)) ((World.cell?_alloc_lt _ _ ⟨b, o + 1, none⟩ (lt_of_cell he)).trans he)
  have HU := Lib.hid hu
  have hal := lt_of_cell ha
  have htl := lt_of_cell ht
  have el := elemVNT a t (w.alloc (.cells #[.pointer (some ⟨5, 54, none⟩), .pointer (some a), .int .u64 150] 80)) (by rw [World.cell?_alloc_lt _ _ a hal]; exact ha)
  have st := setNE t ⟨w.heap.size + 1, 0, none⟩ n old ((w.alloc (.cells #[.pointer (some ⟨5, 54, none⟩), .pointer (some a), .int .u64 150] 80)).alloc (.cells #[(.int .i64 n)] 46))
    (by rw [World.cell?_alloc_at _ _ _ _ (by simp)]; rfl)
    (by rw [World.cell?_alloc_lt _ _ t (by simp; omega), World.cell?_alloc_lt _ _ t htl]; exact ht)
    (by rw [World.frozen?_alloc_old _ _ t (by simp; omega), World.frozen?_alloc_old _ _ t (Nat.ne_of_lt htl)]; exact hf)
  have HF : Hid (Hit t (.int .i64 n) w (.returned (.bool true)) (((w.alloc (.cells #[.pointer (some ⟨5, 54, none⟩), .pointer (some a), .int .u64 150] 80)).alloc (.cells #[(.int .i64 n)] 46)).setCell t (.int .i64 n))) := Lib.hid ⟨rfl, World.cell?_setCell_same _ _ _ (u := old) (by rw [World.cell?_alloc_lt _ _ t (by simp; omega), World.cell?_alloc_lt _ _ t htl]; exact ht), (((Below.refl _ _).alloc (by omega) _).alloc (by simp; omega) _).setCell (Nat.le_refl _) _⟩
  clear ha ht hf he hu
  go_enter Tryd.func43, Tryd.ntmps43
  go_wp2
  refine wp_loop_rounds 2 ?_
  rw [rounds_succ]
  go_wp2_with (go_at_call 101; refine HU.out.mono ?_; rintro e w' ⟨rfl, rfl⟩)
  rw [rounds_succ]
  go_wp2
  go_ret
  exact HF.out

set_option maxHeartbeats 4000000 in
theorem asMissA (n : Int) (_t a : Addr) (tg : Value) (w : World) :
    Calls Tryd.prog 43 #[.iface 46 (.int .i64 n), tg, .agg #[.pointer (some ⟨5, 56, none⟩), .pointer (some a), .int .u64 150], .iface 98 (.agg #[.pointer (some ⟨5, 55, none⟩)])] w (Miss w) := by
  have h62 := @run_callFunc_extern Tryd.prog 55 _ ReflectliteType.typeOf Tryd.func55 (by kernel_rfl) (by kernel_rfl) (by kernel_rfl) (by kernel_rfl)
  have h91 := @run_callFunc_extern Tryd.prog 107 _ (ReflectliteType.relation "AssignableTo" ReflectliteType.assignableTo) Tryd.func107 (by kernel_rfl) (by kernel_rfl) (by kernel_rfl) (by kernel_rfl)
  have tO := typeOfN
  have mA := methodAssignableTo
  have aN := assignNA
  have nA := noAsN
  have nU := noUnwrap
  have nUs := noUnwraps
  have HF : Hid (Miss w (.returned (.bool false)) (w.alloc (.cells #[.pointer (some ⟨5, 56, none⟩), .pointer (some a), .int .u64 150] 80))) := Lib.hid ⟨rfl, belowAlloc _ _⟩
  go_enter Tryd.func43, Tryd.ntmps43
  go_wp2
  refine wp_loop_rounds 1 ?_
  rw [rounds_succ]
  go_wp2
  go_ret
  exact HF.out
end Go.Proofs.YtcjnhgcopdofhaaDoor
