/- Err, ErrAs, ErrNum: merged. -/
import Derived.Test.YtcjfealalokjaaaGreatDoorPa02
import Derived.Test.YtcjfealalokjaaaGreatDoorPa24
set_option linter.all false
namespace Go.Proofs.YtcjfealalokjaaaGreatDoor
open Go Go.RowKit Go.Extern.Stop Go.Stop Go.Extern
theorem typeOfA (v : Value) (w : World) : (ReflectliteType.typeOf #[.iface 66 v]).run Tryz.prog w = .ok (.iface 158 (.agg #[.pointer (some ⟨3, 66, none⟩)])) w := by kernel_rfl
theorem assignAN (w : World) : (ReflectliteType.relation "AssignableTo" ReflectliteType.assignableTo #[.agg #[.pointer (some ⟨3, 66, none⟩)], .iface 158 (.agg #[.pointer (some ⟨3, 63, none⟩)])]).run Tryz.prog w = .ok (.bool false) w := by kernel_rfl
theorem noAsA (v : Value) (xT : TypeId) (w : World) : (Instr.typeAssert (.iface 66 v) xT 163 true).run Tryz.prog w = .ok (.tuple #[.nilIface, .bool false]) w := run_typeAssert_lacksB Tryz.underlying163 (by kernel_rfl) (by kernel_rfl) v xT w
theorem hasUnwrap (v : Value) (xT : TypeId) (w : World) : (Instr.typeAssert (.iface 66 v) xT 166 true).run Tryz.prog w = .ok (.tuple #[.iface 66 v, .bool true]) w := run_typeAssert_hasB Tryz.underlying166 (by kernel_rfl) v xT w
theorem methodUnwrap (p : Addr) (w : World) : (Go.method 367 66 (.pointer (some p)) "Unwrap").run Tryz.prog w = .ok (242, .pointer (some p)) w := by kernel_rfl
end Go.Proofs.YtcjfealalokjaaaGreatDoor
namespace Go.Proofs.YtcjfealalokjaaaGreatDoor
open Go Go.RowKit Go.Extern.Stop Go.Stop Go.Extern
theorem unwrap_any (b o : Nat) (v : Value) (w : World) (h : w.cell? ⟨b, o + 1, none⟩ = some v) :
    Calls Tryz.prog 242 #[.pointer (some ⟨b, o, none⟩)] w fun e w' => e = .returned v ∧ w = w' := by
  go_enter Tryz.func242, Tryz.ntmps242
  go_wp2
  go_ret
  exact ⟨rfl, rfl⟩
set_option maxHeartbeats 4000000 in
theorem asAtN (n : Int) (t a : Addr) (tg old : Value) (w : World) (b o : Nat) (he : w.cell? ⟨b, o + 1, none⟩ = some (.iface 63 (.int .i64 n))) (ha : w.cell? a = some (.pointer (some t))) (ht : w.cell? t = some old) (hf : w.frozen? t = false) :
    Calls Tryz.prog 66 #[.iface 66 (.pointer (some ⟨b, o, none⟩)), tg, .agg #[.pointer (some ⟨3, 65, none⟩), .pointer (some a), .int .u64 150], .iface 158 (.agg #[.pointer (some ⟨3, 63, none⟩)])] w (Hit t (.int .i64 n) w) := by
  have h55 := @run_callFunc_extern Tryz.prog 63 _ (fun args => ReflectliteValue.unpack (args.getD 0 (.tuple #[]))) Tryz.func63 (by kernel_rfl) (by kernel_rfl) (by kernel_rfl) (by kernel_rfl)
  have h62 := @run_callFunc_extern Tryz.prog 116 _ ReflectliteType.typeOf Tryz.func116 (by kernel_rfl) (by kernel_rfl) (by kernel_rfl) (by kernel_rfl)
  have h91 := @run_callFunc_extern Tryz.prog 248 _ (ReflectliteType.relation "AssignableTo" ReflectliteType.assignableTo) Tryz.func248 (by kernel_rfl) (by kernel_rfl) (by kernel_rfl) (by kernel_rfl)
  have h63 := @run_callFunc_extern Tryz.prog 117 _ (ReflectliteValue.method (ReflectliteValue.valueError "reflectlite.Value.Elem" 0) ReflectliteValue.elem) Tryz.func117 (by kernel_rfl) (by kernel_rfl) (by kernel_rfl) (by kernel_rfl)
  have h64 := @run_callFunc_extern Tryz.prog 118 _ ReflectliteValue.set Tryz.func118 (by kernel_rfl) (by kernel_rfl) (by kernel_rfl) (by kernel_rfl)
  have tO := typeOfN
  have mA := methodAssignableTo
  have aN := assignNN
  have vN := valueOfN
  have tA := typeOfA
  have aAN := assignAN
  have nA := noAsA
  have hU := hasUnwrap
  have mU := methodUnwrap
  have hu := unwrap_any b o _ (w.alloc (.cells #[.pointer (some ⟨3, 65, none⟩), .pointer (some a), .int .u64 150] 114)) ((World.cell?_alloc_lt _ _ ⟨b, o + 1, none⟩ (lt_of_cell he)).trans he)
  have HU := Lib.hid hu
  have hal := lt_of_cell ha
  have htl := lt_of_cell ht
  have el := elemVNT a t (w.alloc (.cells #[.pointer (some ⟨3, 65, none⟩), .pointer (some a), .int .u64 150] 114)) (by rw [World.cell?_alloc_lt _ _ a hal]; exact ha)
  have st := setNE t ⟨w.heap.size + 1, 0, none⟩ n old ((w.alloc (.cells #[.pointer (some ⟨3, 65, none⟩), .pointer (some a), .int .u64 150] 114)).alloc (.cells #[(.int .i64 n)] 63))
    (by rw [World.cell?_alloc_at _ _ _ _ (by simp)]; rfl)
    (by rw [World.cell?_alloc_lt _ _ t (by simp; omega), World.cell?_alloc_lt _ _ t htl]; exact ht)
    (by rw [World.frozen?_alloc_old _ _ t (by simp; omega), World.frozen?_alloc_old _ _ t (Nat.ne_of_lt htl)]; exact hf)
  have HF : Hid (Hit t (.int .i64 n) w (.returned (.bool true)) (((w.alloc (.cells #[.pointer (some ⟨3, 65, none⟩), .pointer (some a), .int .u64 150] 114)).alloc (.cells #[(.int .i64 n)] 63)).setCell t (.int .i64 n))) := Lib.hid ⟨rfl, World.cell?_setCell_same _ _ _ (u := old) (by rw [World.cell?_alloc_lt _ _ t (by simp; omega), World.cell?_alloc_lt _ _ t htl]; exact ht), (((Below.refl _ _).alloc (by omega) _).alloc (by simp; omega) _).setCell (Nat.le_refl _) _⟩
  clear ha ht hf he hu
  go_enter Tryz.func66, Tryz.ntmps66
  go_wp2
  refine wp_loop_rounds 2 ?_
  rw [rounds_succ]
  go_wp2_with (go_at_call 242; refine HU.out.mono ?_; rintro e w' ⟨rfl, rfl⟩)
  rw [rounds_succ]
  go_wp2
  go_ret
  exact HF.out
end Go.Proofs.YtcjfealalokjaaaGreatDoor
namespace Go.Proofs.YtcjfealalokjaaaGreatDoor
open Go Go.RowKit Go.Extern.Stop Go.Stop Go.Extern
theorem num_nil (w : World) : Calls Tryz.prog 12 #[.nilIface] w fun e w' => e = .returned (.int .i64 0) ∧ w = w' := by
  go_enter Tryz.func12, Tryz.ntmps12
  go_wp2
  go_ret
  exact ⟨rfl, rfl⟩
theorem num_at (n : Int) (b o : Nat) (w : World) (hg : ErrTab w) (he : w.cell? ⟨b, o + 1, none⟩ = some (.iface 63 (.int .i64 n))) : Calls Tryz.prog 12 #[.iface 66 (.pointer (some ⟨b, o, none⟩))] w fun e w' => e = .returned (.int .i64 n) ∧ Below w.heap.size w w' :=
  num_of _ _ n w hg fun t a tg old W h1 h2 h3 h4 => asAtN n t a tg old W b o ((h4.cell (p := ⟨b, o + 1, none⟩) (lt_of_cell he)).trans he) h1 h2 h3
end Go.Proofs.YtcjfealalokjaaaGreatDoor
