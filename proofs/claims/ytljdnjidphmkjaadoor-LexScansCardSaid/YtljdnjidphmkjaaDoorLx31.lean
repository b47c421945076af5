/- Err, ErrAs, ErrAs2, ErrNum: merged. -/
import Derived.LaidEql
import Derived.Stop.Asserts
import Derived.RowKitTokens
import Derived.Test.YtljdnjidphmkjaaDoorLx02
set_option linter.all false
namespace Go.Proofs.YtljdnjidphmkjaaDoor
open Go Go.RowKit Go.Extern.Stop Go.Stop Go.Extern
theorem valNT (t : Addr) (w : World) : (ReflectliteValue.unpack (.iface 56 (.pointer (some t)))).run Tryd.prog w = .ok (.agg #[.pointer (some ⟨3, 56, none⟩), .pointer (some ⟨w.heap.size, 0, none⟩), .int .u64 150]) (w.alloc (.cells #[.pointer (some t)] 56)) := by kernel_rfl
theorem typeNT (a : Addr) (w : World) : (ReflectliteValue.methodAny (ReflectliteValue.valueError "reflectlite.Value.Type" 0) (fun t _ _ _ => ReflectliteType.toType t) #[.agg #[.pointer (some ⟨3, 56, none⟩), .pointer (some a), .int .u64 150]]).run Tryd.prog w = .ok (.iface 109 (.agg #[.pointer (some ⟨3, 56, none⟩)])) w := by kernel_rfl
theorem kindNT (w : World) : ((ReflectliteType.abiMethod fun t => (fun a : Nat => Value.int IntKind.u8 (a : Int)) <$> Rtype.kind t) #[.pointer (some ⟨3, 56, none⟩)]).run Tryd.prog w = .ok (.int .u8 22) w := by kernel_rfl
theorem kindNE (w : World) : ((ReflectliteType.abiMethod fun t => (fun a : Nat => Value.int IntKind.u8 (a : Int)) <$> Rtype.kind t) #[.pointer (some ⟨3, 43, none⟩)]).run Tryd.prog w = .ok (.int .u8 2) w := by kernel_rfl
theorem partsNT (a : Addr) (w : World) : (ReflectliteValue.parts (.agg #[.pointer (some ⟨3, 56, none⟩), .pointer (some a), .int .u64 150])).run Tryd.prog w = .ok (some (56, a, 150)) w := by kernel_rfl
theorem elemNT (w : World) : (ReflectliteType.method ReflectliteType.elem #[.agg #[.pointer (some ⟨3, 56, none⟩)]]).run Tryd.prog w = .ok (.iface 109 (.agg #[.pointer (some ⟨3, 43, none⟩)])) w := by kernel_rfl
theorem implNE (w : World) : (ReflectliteType.relation "Implements" ReflectliteType.implements_ #[.agg #[.pointer (some ⟨3, 43, none⟩)], .iface 109 (.agg #[.pointer (some ⟨3, 25, none⟩)])]).run Tryd.prog w = .ok (.bool true) w := by kernel_rfl
theorem elemOfNT (w : World) : (Rtype.elem? 56).run Tryd.prog w = .ok (some 43) w := by kernel_rfl
theorem mkNE (p : Addr) (w : World) : (ReflectliteValue.mk 43 p ReflectliteValue.flagAddr).run Tryd.prog w = .ok (.agg #[.pointer (some ⟨3, 43, none⟩), .pointer (some p), .int .u64 386]) w := by kernel_rfl
theorem partsANE (a : Addr) (w : World) : (ReflectliteValue.parts (.agg #[.pointer (some ⟨3, 43, none⟩), .pointer (some a), .int .u64 386])).run Tryd.prog w = .ok (some (43, a, 386)) w := by kernel_rfl
theorem partsNE (a : Addr) (w : World) : (ReflectliteValue.parts (.agg #[.pointer (some ⟨3, 43, none⟩), .pointer (some a), .int .u64 130])).run Tryd.prog w = .ok (some (43, a, 130)) w := by kernel_rfl
theorem directNE (w : World) : (Rtype.directlyAssignable 43 43).run Tryd.prog w = .ok true w := by kernel_rfl
theorem isNilNT (a p : Addr) (W : World) (ha : W.cell? a = some (.pointer (some p))) :
    (ReflectliteValue.method (ReflectliteValue.valueError "reflectlite.Value.IsNil" 0) ReflectliteValue.isNil #[.agg #[.pointer (some ⟨3, 56, none⟩), .pointer (some a), .int .u64 150]]).run Tryd.prog W = .ok (.bool false) W := by
  change Sem.run _ (Bind.bind (ReflectliteValue.parts _) _) _ = _
  simp only [Array.getLit, List.getElem_toArray, List.getElem_cons_zero, Sem.run_bind, partsNT, Result.andThen]
  simp [ReflectliteValue.isNil, loadVar, isAgg, underlying, Tryd.underlying56, ha, Result.andThen]
theorem elemVNT (a p : Addr) (W : World) (ha : W.cell? a = some (.pointer (some p))) :
    (ReflectliteValue.method (ReflectliteValue.valueError "reflectlite.Value.Elem" 0) ReflectliteValue.elem #[.agg #[.pointer (some ⟨3, 56, none⟩), .pointer (some a), .int .u64 150]]).run Tryd.prog W = .ok (.agg #[.pointer (some ⟨3, 43, none⟩), .pointer (some p), .int .u64 386]) W := by
  change Sem.run _ (Bind.bind (ReflectliteValue.parts _) _) _ = _
  simp only [Array.getLit, List.getElem_toArray, List.getElem_cons_zero, Sem.run_bind, partsNT, Result.andThen]
  simp [ReflectliteValue.elem, loadVar, isAgg, underlying, Tryd.underlying56, ha, Result.andThen, elemOfNT, mkNE]
theorem setNE (ta b : Addr) (n : Int) (old : Value) (W : World) (hb : W.cell? b = some (.int .i64 n)) (ht : W.cell? ta = some old) (hf : W.frozen? ta = false) :
    (ReflectliteValue.set #[.agg #[.pointer (some ⟨3, 43, none⟩), .pointer (some ta), .int .u64 386], .agg #[.pointer (some ⟨3, 43, none⟩), .pointer (some b), .int .u64 130]]).run Tryd.prog W = .ok (.tuple #[]) (W.setCell ta (.int .i64 n)) := by
  change Sem.run _ (Bind.bind (ReflectliteValue.parts _) _) _ = _
  simp only [Array.getLit, List.getElem_toArray, List.getElem_cons_zero, List.getElem_cons_succ, Sem.run_bind, partsANE, partsNE, Result.andThen]
  simp [ReflectliteValue.flagAddr, loadVar, isAgg, underlying, Tryd.underlying43, hb, Result.andThen, directNE, storeVar, Value.cells, storeCells, Addr.add]
  rw [run_store Tryd.prog W ta _ _ (by rfl)]
  simp [ht, hf]
theorem valAT (t : Addr) (w : World) : (ReflectliteValue.unpack (.iface 58 (.pointer (some t)))).run Tryd.prog w = .ok (.agg #[.pointer (some ⟨3, 58, none⟩), .pointer (some ⟨w.heap.size, 0, none⟩), .int .u64 150]) (w.alloc (.cells #[.pointer (some t)] 58)) := by kernel_rfl
theorem typeAT (a : Addr) (w : World) : (ReflectliteValue.methodAny (ReflectliteValue.valueError "reflectlite.Value.Type" 0) (fun t _ _ _ => ReflectliteType.toType t) #[.agg #[.pointer (some ⟨3, 58, none⟩), .pointer (some a), .int .u64 150]]).run Tryd.prog w = .ok (.iface 109 (.agg #[.pointer (some ⟨3, 58, none⟩)])) w := by kernel_rfl
theorem kindAT (w : World) : ((ReflectliteType.abiMethod fun t => (fun a : Nat => Value.int IntKind.u8 (a : Int)) <$> Rtype.kind t) #[.pointer (some ⟨3, 58, none⟩)]).run Tryd.prog w = .ok (.int .u8 22) w := by kernel_rfl
theorem kindAE (w : World) : ((ReflectliteType.abiMethod fun t => (fun a : Nat => Value.int IntKind.u8 (a : Int)) <$> Rtype.kind t) #[.pointer (some ⟨3, 57, none⟩)]).run Tryd.prog w = .ok (.int .u8 22) w := by kernel_rfl
theorem partsAT (a : Addr) (w : World) : (ReflectliteValue.parts (.agg #[.pointer (some ⟨3, 58, none⟩), .pointer (some a), .int .u64 150])).run Tryd.prog w = .ok (some (58, a, 150)) w := by kernel_rfl
theorem elemAT (w : World) : (ReflectliteType.method ReflectliteType.elem #[.agg #[.pointer (some ⟨3, 58, none⟩)]]).run Tryd.prog w = .ok (.iface 109 (.agg #[.pointer (some ⟨3, 57, none⟩)])) w := by kernel_rfl
theorem implAE (w : World) : (ReflectliteType.relation "Implements" ReflectliteType.implements_ #[.agg #[.pointer (some ⟨3, 57, none⟩)], .iface 109 (.agg #[.pointer (some ⟨3, 25, none⟩)])]).run Tryd.prog w = .ok (.bool true) w := by kernel_rfl
theorem elemOfAT (w : World) : (Rtype.elem? 58).run Tryd.prog w = .ok (some 57) w := by kernel_rfl
theorem mkAE (p : Addr) (w : World) : (ReflectliteValue.mk 57 p ReflectliteValue.flagAddr).run Tryd.prog w = .ok (.agg #[.pointer (some ⟨3, 57, none⟩), .pointer (some p), .int .u64 406]) w := by kernel_rfl
theorem partsAAE (a : Addr) (w : World) : (ReflectliteValue.parts (.agg #[.pointer (some ⟨3, 57, none⟩), .pointer (some a), .int .u64 406])).run Tryd.prog w = .ok (some (57, a, 406)) w := by kernel_rfl
theorem partsAE (a : Addr) (w : World) : (ReflectliteValue.parts (.agg #[.pointer (some ⟨3, 57, none⟩), .pointer (some a), .int .u64 150])).run Tryd.prog w = .ok (some (57, a, 150)) w := by kernel_rfl
theorem directAE (w : World) : (Rtype.directlyAssignable 57 57).run Tryd.prog w = .ok true w := by kernel_rfl
theorem isNilAT (a p : Addr) (W : World) (ha : W.cell? a = some (.pointer (some p))) :
    (ReflectliteValue.method (ReflectliteValue.valueError "reflectlite.Value.IsNil" 0) ReflectliteValue.isNil #[.agg #[.pointer (some ⟨3, 58, none⟩), .pointer (some a), .int .u64 150]]).run Tryd.prog W = .ok (.bool false) W := by
  change Sem.run _ (Bind.bind (ReflectliteValue.parts _) _) _ = _
  simp only [Array.getLit, List.getElem_toArray, List.getElem_cons_zero, Sem.run_bind, partsAT, Result.andThen]
  simp [ReflectliteValue.isNil, loadVar, isAgg, underlying, Tryd.underlying58, ha, Result.andThen]
theorem elemVAT (a p : Addr) (W : World) (ha : W.cell? a = some (.pointer (some p))) :
    (ReflectliteValue.method (ReflectliteValue.valueError "reflectlite.Value.Elem" 0) ReflectliteValue.elem #[.agg #[.pointer (some ⟨3, 58, none⟩), .pointer (some a), .int .u64 150]]).run Tryd.prog W = .ok (.agg #[.pointer (some ⟨3, 57, none⟩), .pointer (some p), .int .u64 406]) W := by
  change Sem.run _ (Bind.bind (ReflectliteValue.parts _) _) _ = _
  simp only [Array.getLit, List.getElem_toArray, List.getElem_cons_zero, Sem.run_bind, partsAT, Result.andThen]
  simp [ReflectliteValue.elem, loadVar, isAgg, underlying, Tryd.underlying58, ha, Result.andThen, elemOfAT, mkAE]
theorem setAE (ta b : Addr) (p : Addr) (old : Value) (W : World) (hb : W.cell? b = some (.pointer (some p))) (ht : W.cell? ta = some old) (hf : W.frozen? ta = false) :
    (ReflectliteValue.set #[.agg #[.pointer (some ⟨3, 57, none⟩), .pointer (some ta), .int .u64 406], .agg #[.pointer (some ⟨3, 57, none⟩), .pointer (some b), .int .u64 150]]).run Tryd.prog W = .ok (.tuple #[]) (W.setCell ta (.pointer (some p))) := by
  change Sem.run _ (Bind.bind (ReflectliteValue.parts _) _) _ = _
  simp only [Array.getLit, List.getElem_toArray, List.getElem_cons_zero, List.getElem_cons_succ, Sem.run_bind, partsAAE, partsAE, Result.andThen]
  simp [ReflectliteValue.flagAddr, loadVar, isAgg, underlying, Tryd.underlying57, hb, Result.andThen, directAE, storeVar, Value.cells, storeCells, Addr.add]
  rw [run_store Tryd.prog W ta _ _ (by rfl)]
  simp [ht, hf]
theorem typeOfN (v : Value) (w : World) : (ReflectliteType.typeOf #[.iface 43 v]).run Tryd.prog w = .ok (.iface 109 (.agg #[.pointer (some ⟨3, 43, none⟩)])) w := by kernel_rfl
theorem valueOfN (n : Int) (w : World) : (ReflectliteValue.unpack (.iface 43 (.int .i64 n))).run Tryd.prog w = .ok (.agg #[.pointer (some ⟨3, 43, none⟩), .pointer (some ⟨w.heap.size, 0, none⟩), .int .u64 130]) (w.alloc (.cells #[(.int .i64 n)] 43)) := by kernel_rfl
theorem assignNN (w : World) : (ReflectliteType.relation "AssignableTo" ReflectliteType.assignableTo #[.agg #[.pointer (some ⟨3, 43, none⟩)], .iface 109 (.agg #[.pointer (some ⟨3, 43, none⟩)])]).run Tryd.prog w = .ok (.bool true) w := by kernel_rfl
theorem assignNA (w : World) : (ReflectliteType.relation "AssignableTo" ReflectliteType.assignableTo #[.agg #[.pointer (some ⟨3, 43, none⟩)], .iface 109 (.agg #[.pointer (some ⟨3, 57, none⟩)])]).run Tryd.prog w = .ok (.bool false) w := by kernel_rfl
theorem noAsN (v : Value) (xT : TypeId) (w : World) : (Instr.typeAssert (.iface 43 v) xT 114 true).run Tryd.prog w = .ok (.tuple #[.nilIface, .bool false]) w := run_typeAssert_lacksB Tryd.underlying114 (by kernel_rfl) (by kernel_rfl) v xT w
theorem typeOfA (v : Value) (w : World) : (ReflectliteType.typeOf #[.iface 57 v]).run Tryd.prog w = .ok (.iface 109 (.agg #[.pointer (some ⟨3, 57, none⟩)])) w := by kernel_rfl
theorem valueOfA (p : Addr) (w : World) : (ReflectliteValue.unpack (.iface 57 (.pointer (some p)))).run Tryd.prog w = .ok (.agg #[.pointer (some ⟨3, 57, none⟩), .pointer (some ⟨w.heap.size, 0, none⟩), .int .u64 150]) (w.alloc (.cells #[(.pointer (some p))] 57)) := by kernel_rfl
theorem assignAN (w : World) : (ReflectliteType.relation "AssignableTo" ReflectliteType.assignableTo #[.agg #[.pointer (some ⟨3, 57, none⟩)], .iface 109 (.agg #[.pointer (some ⟨3, 43, none⟩)])]).run Tryd.prog w = .ok (.bool false) w := by kernel_rfl
theorem assignAA (w : World) : (ReflectliteType.relation "AssignableTo" ReflectliteType.assignableTo #[.agg #[.pointer (some ⟨3, 57, none⟩)], .iface 109 (.agg #[.pointer (some ⟨3, 57, none⟩)])]).run Tryd.prog w = .ok (.bool true) w := by kernel_rfl
theorem noAsA (v : Value) (xT : TypeId) (w : World) : (Instr.typeAssert (.iface 57 v) xT 114 true).run Tryd.prog w = .ok (.tuple #[.nilIface, .bool false]) w := run_typeAssert_lacksB Tryd.underlying114 (by kernel_rfl) (by kernel_rfl) v xT w
theorem hasUnwrap (v : Value) (xT : TypeId) (w : World) : (Instr.typeAssert (.iface 57 v) xT 117 true).run Tryd.prog w = .ok (.tuple #[.iface 57 v, .bool true]) w := run_typeAssert_hasB Tryd.underlying117 (by kernel_rfl) v xT w
theorem noUnwrap (v : Value) (xT : TypeId) (w : World) : (Instr.typeAssert (.iface 43 v) xT 117 true).run Tryd.prog w = .ok (.tuple #[.nilIface, .bool false]) w := run_typeAssert_lacksB Tryd.underlying117 (by kernel_rfl) (by kernel_rfl) v xT w
theorem noUnwraps (v : Value) (xT : TypeId) (w : World) : (Instr.typeAssert (.iface 43 v) xT 119 true).run Tryd.prog w = .ok (.tuple #[.nilIface, .bool false]) w := run_typeAssert_lacksB Tryd.underlying119 (by kernel_rfl) (by kernel_rfl) v xT w
theorem methodKind (h : Value) (w : World) : (Go.method 267 109 (.agg #[h]) "Kind").run Tryd.prog w = .ok (110, h) w := by kernel_rfl
theorem methodElem (h : Value) (w : World) : (Go.method 267 109 (.agg #[h]) "Elem").run Tryd.prog w = .ok (123, .agg #[h]) w := by kernel_rfl
theorem methodImplements (h : Value) (w : World) : (Go.method 267 109 (.agg #[h]) "Implements").run Tryd.prog w = .ok (124, .agg #[h]) w := by kernel_rfl
theorem methodAssignableTo (h : Value) (w : World) : (Go.method 267 109 (.agg #[h]) "AssignableTo").run Tryd.prog w = .ok (121, .agg #[h]) w := by kernel_rfl
theorem methodUnwrap (p : Addr) (w : World) : (Go.method 267 57 (.pointer (some p)) "Unwrap").run Tryd.prog w = .ok (115, .pointer (some p)) w := by kernel_rfl
end Go.Proofs.YtljdnjidphmkjaaDoor
namespace Go.Proofs.YtljdnjidphmkjaaDoor
open Go Go.RowKit Go.Extern.Stop Go.Stop Go.Extern
theorem unwrap_any (b o : Nat) (v : Value) (w : World) (h : w.cell? ⟨b, o + 1, none⟩ = some v) :
    Calls Tryd.prog 115 #[.pointer (some ⟨b, o, none⟩)] w fun e w' => e = .returned v ∧ w = w' := by
  go_enter Tryd.func115, Tryd.ntmps115
  go_wp2
  go_ret
  exact ⟨rfl, rfl⟩
/-- What a hit leaves: the variable at t holds v; below its block all is as it was. -/
def Hit (t : Addr) (v : Value) (w : World) (e : Ending) (w' : World) : Prop := e = .returned (.bool true) ∧ w'.cell? t = some v ∧ Below t.block w w'
def Miss (w : World) (e : Ending) (w' : World) : Prop := e = .returned (.bool false) ∧ Below w.heap.size w w'
set_option maxHeartbeats 4000000 in
theorem asHitN (n : Int) (t a : Addr) (tg old : Value) (w : World) (ha : w.cell? a = some (.pointer (some t))) (ht : w.cell? t = some old) (hf : w.frozen? t = false) :
    Calls Tryd.prog 54 #[.iface 43 (.int .i64 n), tg, .agg #[.pointer (some ⟨3, 56, none⟩), .pointer (some a), .int .u64 150], .iface 109 (.agg #[.pointer (some ⟨3, 43, none⟩)])] w (Hit t (.int .i64 n) w) := by
  have h55 := @run_callFunc_extern Tryd.prog 51 _ (fun args => ReflectliteValue.unpack (args.getD 0 (.tuple #[]))) Tryd.func51 (by kernel_rfl) (by kernel_rfl) (by kernel_rfl) (by kernel_rfl)
  have h62 := @run_callFunc_extern Tryd.prog 70 _ ReflectliteType.typeOf Tryd.func70 (by kernel_rfl) (by kernel_rfl) (by kernel_rfl) (by kernel_rfl)
  have h91 := @run_callFunc_extern Tryd.prog 121 _ (ReflectliteType.relation "AssignableTo" ReflectliteType.assignableTo) Tryd.func121 (by kernel_rfl) (by kernel_rfl) (by kernel_rfl) (by kernel_rfl)
  have h63 := @run_callFunc_extern Tryd.prog 71 _ (ReflectliteValue.method (ReflectliteValue.valueError "reflectlite.Value.Elem" 0) ReflectliteValue.elem) Tryd.func71 (by kernel_rfl) (by kernel_rfl) (by kernel_rfl) (by kernel_rfl)
  have h64 := @run_callFunc_extern Tryd.prog 72 _ ReflectliteValue.set Tryd.func72 (by kernel_rfl) (by kernel_rfl) (by kernel_rfl) (by kernel_rfl)
  have tO := typeOfN
  have mA := methodAssignableTo
  have aN := assignNN
  have vN := valueOfN
  have hal := lt_of_cell ha
  have htl := lt_of_cell ht
  have el := elemVNT a t (w.alloc (.cells #[.pointer (some ⟨3, 56, none⟩), .pointer (some a), .int .u64 150] 84)) (by rw [World.cell?_alloc_lt _ _ a hal]; exact ha)
  have st := setNE t ⟨w.heap.size + 1, 0, none⟩ n old ((w.alloc (.cells #[.pointer (some ⟨3, 56, none⟩), .pointer (some a), .int .u64 150] 84)).alloc (.cells #[(.int .i64 n)] 43))
    (by rw [World.cell?_alloc_at _ _ _ _ (by simp)]; rfl)
    (by rw [World.cell?_alloc_lt _ _ t (by simp; omega), World.cell?_alloc_lt _ _ t htl]; exact ht)
    (by rw [World.frozen?_alloc_old _ _ t (by simp; omega), World.frozen?_alloc_old _ _ t (Nat.ne_of_lt htl)]; exact hf)
  have HF : Hid (Hit t (.int .i64 n) w (.returned (.bool true)) (((w.alloc (.cells #[.pointer (some ⟨3, 56, none⟩), .pointer (some a), .int .u64 150] 84)).alloc (.cells #[(.int .i64 n)] 43)).setCell t (.int .i64 n))) := Lib.hid ⟨rfl, World.cell?_setCell_same _ _ _ (u := old) (by rw [World.cell?_alloc_lt _ _ t (by simp; omega), World.cell?_alloc_lt _ _ t htl]; exact ht), (((Below.refl _ _).alloc (by omega) _).alloc (by simp; omega) _).setCell (Nat.le_refl _) _⟩
  clear ha ht hf
  go_enter Tryd.func54, Tryd.ntmps54
  go_wp2
  refine wp_loop_rounds 1 ?_
  rw [rounds_succ]
  go_wp2
  go_ret
  exact HF.out
set_option maxHeartbeats 4000000 in
theorem asHitA (p : Addr) (t a : Addr) (tg old : Value) (w : World) (ha : w.cell? a = some (.pointer (some t))) (ht : w.cell? t = some old) (hf : w.frozen? t = false) :
    Calls Tryd.prog 54 #[.iface 57 (.pointer (some p)), tg, .agg #[.pointer (some ⟨3, 58, none⟩), .pointer (some a), .int .u64 150], .iface 109 (.agg #[.pointer (some ⟨3, 57, none⟩)])] w (Hit t (.pointer (some p)) w) := by
  have h55 := @run_callFunc_extern Tryd.prog 51 _ (fun args => ReflectliteValue.unpack (args.getD 0 (.tuple #[]))) Tryd.func51 (by kernel_rfl) (by kernel_rfl) (by kernel_rfl) (by kernel_rfl)
  have h62 := @run_callFunc_extern Tryd.prog 70 _ ReflectliteType.typeOf Tryd.func70 (by kernel_rfl) (by kernel_rfl) (by kernel_rfl) (by kernel_rfl)
  have h91 := @run_callFunc_extern Tryd.prog 121 _ (ReflectliteType.relation "AssignableTo" ReflectliteType.assignableTo) Tryd.func121 (by kernel_rfl) (by kernel_rfl) (by kernel_rfl) (by kernel_rfl)
  have h63 := @run_callFunc_extern Tryd.prog 71 _ (ReflectliteValue.method (ReflectliteValue.valueError "reflectlite.Value.Elem" 0) ReflectliteValue.elem) Tryd.func71 (by kernel_rfl) (by kernel_rfl) (by kernel_rfl) (by kernel_rfl)
  have h64 := @run_callFunc_extern Tryd.prog 72 _ ReflectliteValue.set Tryd.func72 (by kernel_rfl) (by kernel_rfl) (by kernel_rfl) (by kernel_rfl)
  have tO := typeOfA
  have mA := methodAssignableTo
  have aN := assignAA
  have vN := valueOfA
  have hal := lt_of_cell ha
  have htl := lt_of_cell ht
  have el := elemVAT a t (w.alloc (.cells #[.pointer (some ⟨3, 58, none⟩), .pointer (some a), .int .u64 150] 84)) (by rw [World.cell?_alloc_lt _ _ a hal]; exact ha)
  have st := setAE t ⟨w.heap.size + 1, 0, none⟩ p old ((w.alloc (.cells #[.pointer (some ⟨3, 58, none⟩), .pointer (some a), .int .u64 150] 84)).alloc (.cells #[(.pointer (some p))] 57))
    (by rw [World.cell?_alloc_at _ _ _ _ (by simp)]; rfl)
    (by rw [World.cell?_alloc_lt _ _ t (by simp; omega), World.cell?_alloc_lt _ _ t htl]; exact ht)
    (by rw [World.frozen?_alloc_old _ _ t (by simp; omega), World.frozen?_alloc_old _ _ t (Nat.ne_of_lt htl)]; exact hf)
  have HF : Hid (Hit t (.pointer (some p)) w (.returned (.bool true)) (((w.alloc (.cells #[.pointer (some ⟨3, 58, none⟩), .pointer (some a), .int .u64 150] 84)).alloc (.cells #[(.pointer (some p))] 57)).setCell t (.pointer (some p)))) := Lib.hid ⟨rfl, World.cell?_setCell_same _ _ _ (u := old) (by rw [World.cell?_alloc_lt _ _ t (by simp; omega), World.cell?_alloc_lt _ _ t htl]; exact ht), (((Below.refl _ _).alloc (by omega) _).alloc (by simp; omega) _).setCell (Nat.le_refl _) _⟩
  clear ha ht hf
  go_enter Tryd.func54, Tryd.ntmps54
  go_wp2
  refine wp_loop_rounds 1 ?_
  rw [rounds_succ]
  go_wp2
  go_ret
  exact HF.out
set_option maxHeartbeats 4000000 in
theorem asAtN (n : Int) (t a : Addr) (tg old : Value) (w : World) (b o : Nat) (he : w.cell? ⟨b, o + 1, none⟩ = some (.iface 43 (.int .i64 n))) (ha : w.cell? a = some (.pointer (some t))) (ht : w.cell? t = some old) (hf : w.frozen? t = false) :
    Calls Tryd.prog 54 #[.iface 57 (.pointer (some ⟨b, o, none⟩)), tg, .agg #[.pointer (some ⟨3, 56, none⟩), .pointer (some a), .int .u64 150], .iface 109 (.agg #[.pointer (some ⟨3, 43, none⟩)])] w (Hit t (.int .i64 n) w) := by
  have h55 := @run_callFunc_extern Tryd.prog 51 _ (fun args => ReflectliteValue.unpack (args.getD 0 (.tuple #[]))) Tryd.func51 (by kernel_rfl) (by kernel_rfl) (by kernel_rfl) (by kernel_rfl)
  have h62 := @run_callFunc_extern Tryd.prog 70 _ ReflectliteType.typeOf Tryd.func70 (by kernel_rfl) (by kernel_rfl) (by kernel_rfl) (by kernel_rfl)
  have h91 := @run_callFunc_extern Tryd.prog 121 _ (ReflectliteType.relation "AssignableTo" ReflectliteType.assignableTo) Tryd.func121 (by kernel_rfl) (by kernel_rfl) (by kernel_rfl) (by kernel_rfl)
  have h63 := @run_callFunc_extern Tryd.prog 71 _ (ReflectliteValue.method (ReflectliteValue.valueError "reflectlite.Value.Elem" 0) ReflectliteValue.elem) Tryd.func71 (by kernel_rfl) (by kernel_rfl) (by kernel_rfl) (by kernel_rfl)
  have h64 := @run_callFunc_extern Tryd.prog 72 _ ReflectliteValue.set Tryd.func72 (by kernel_rfl) (by kernel_rfl) (by kernel_rfl) (by kernel_rfl)
  have tO := typeOfN
  have mA := methodAssignableTo
  have aN := assignNN
  have vN := valueOfN
  have tA := typeOfA
  have aAN := assignAN
  have nA := noAsA
  have hU := hasUnwrap
  have mU := methodUnwrap
  have hu := unwrap_any b o _ (w.alloc (.cells #[.pointer (some ⟨3, 56, none⟩), .pointer (some a), .int .u64 150] 84)) ((World.cell?_alloc_lt _ _ ⟨b, o + 1, none⟩ (lt_of_cell he)).trans he)
  have HU := Lib.hid hu
  have hal := lt_of_cell ha
  have htl := lt_of_cell ht
  have el := elemVNT a t (w.alloc (.cells #[.pointer (some ⟨3, 56, none⟩), .pointer (some a), .int .u64 150] 84)) (by rw [World.cell?_alloc_lt _ _ a hal]; exact ha)
  have st := setNE t ⟨w.heap.size + 1, 0, none⟩ n old ((w.alloc (.cells #[.pointer (some ⟨3, 56, none⟩), .pointer (some a), .int .u64 150] 84)).alloc (.cells #[(.int .i64 n)] 43))
    (by rw [World.cell?_alloc_at _ _ _ _ (by simp)]; rfl)
    (by rw [World.cell?_alloc_lt _ _ t (by simp; omega), World.cell?_alloc_lt _ _ t htl]; exact ht)
    (by rw [World.frozen?_alloc_old _ _ t (by simp; omega), World.frozen?_alloc_old _ _ t (Nat.ne_of_lt htl)]; exact hf)
  have HF : Hid (Hit t (.int .i64 n) w (.returned (.bool true)) (((w.alloc (.cells #[.pointer (some ⟨3, 56, none⟩), .pointer (some a), .int .u64 150] 84)).alloc (.cells #[(.int .i64 n)] 43)).setCell t (.int .i64 n))) := Lib.hid ⟨rfl, World.cell?_setCell_same _ _ _ (u := old) (by rw [World.cell?_alloc_lt _ _ t (by simp; omega), World.cell?_alloc_lt _ _ t htl]; exact ht), (((Below.refl _ _).alloc (by omega) _).alloc (by simp; omega) _).setCell (Nat.le_refl _) _⟩
  clear ha ht hf he hu
  go_enter Tryd.func54, Tryd.ntmps54
  go_wp2
  refine wp_loop_rounds 2 ?_
  rw [rounds_succ]
  go_wp2_with (go_at_call 115; refine HU.out.mono ?_; rintro e w' ⟨rfl, rfl⟩)
  rw [rounds_succ]
  go_wp2
  go_ret
  exact HF.out
set_option maxHeartbeats 4000000 in
theorem asMissA (n : Int) (_t a : Addr) (tg : Value) (w : World) :
    Calls Tryd.prog 54 #[.iface 43 (.int .i64 n), tg, .agg #[.pointer (some ⟨3, 58, none⟩), .pointer (some a), .int .u64 150], .iface 109 (.agg #[.pointer (some ⟨3, 57, none⟩)])] w (Miss w) := by
  have h62 := @run_callFunc_extern Tryd.prog 70 _ ReflectliteType.typeOf Tryd.func70 (by kernel_rfl) (by kernel_rfl) (by kernel_rfl) (by kernel_rfl)
  have h91 := @run_callFunc_extern Tryd.prog 121 _ (ReflectliteType.relation "AssignableTo" ReflectliteType.assignableTo) Tryd.func121 (by kernel_rfl) (by kernel_rfl) (by kernel_rfl) (by kernel_rfl)
  have tO := typeOfN
  have mA := methodAssignableTo
  have aN := assignNA
  have nA := noAsN
  have nU := noUnwrap
  have nUs := noUnwraps
  have HF : Hid (Miss w (.returned (.bool false)) (w.alloc (.cells #[.pointer (some ⟨3, 58, none⟩), .pointer (some a), .int .u64 150] 84))) := Lib.hid ⟨rfl, belowAlloc _ _⟩
  go_enter Tryd.func54, Tryd.ntmps54
  go_wp2
  refine wp_loop_rounds 1 ?_
  rw [rounds_succ]
  go_wp2
  go_ret
  exact HF.out
end Go.Proofs.YtljdnjidphmkjaaDoor
namespace Go.Proofs.YtljdnjidphmkjaaDoor
open Go Go.RowKit Go.Extern.Stop Go.Stop Go.Extern
set_option maxRecDepth 100000 in
set_option maxHeartbeats 4000000 in
theorem asN_of (d : TypeId) (v : Value) (t : Addr) (old : Value) (w : World) (r : Bool) (R : World → World → Prop) (hg : w.cell? ⟨0, 0, none⟩ = some (.iface 109 (.agg #[.pointer (some ⟨3, 25, none⟩)]))) (ht : w.cell? t = some old) (hf : w.frozen? t = false)
    (has : ∀ W a, W.cell? a = some (.pointer (some t)) → W.cell? t = some old → W.frozen? t = false → Below w.heap.size w W → Calls Tryd.prog 54 #[.iface d v, .iface 56 (.pointer (some t)), .agg #[.pointer (some ⟨3, 56, none⟩), .pointer (some a), .int .u64 150], .iface 109 (.agg #[.pointer (some ⟨3, 43, none⟩)])] W fun ev w' => ev = .returned (.bool r) ∧ R W w') :
    Calls Tryd.prog 27 #[.iface d v, .iface 56 (.pointer (some t))] w fun ev w' => ev = .returned (.bool r) ∧ ∃ W, Below w.heap.size w W ∧ R W w' := by
  have h55 := @run_callFunc_extern Tryd.prog 51 _ (fun args => ReflectliteValue.unpack (args.getD 0 (.tuple #[]))) Tryd.func51 (by kernel_rfl) (by kernel_rfl) (by kernel_rfl) (by kernel_rfl)
  have h56 := @run_callFunc_extern Tryd.prog 52 _ (ReflectliteValue.methodAny (ReflectliteValue.valueError "reflectlite.Value.Type" 0) (fun t _ _ _ => ReflectliteType.toType t)) Tryd.func52 (by kernel_rfl) (by kernel_rfl) (by kernel_rfl) (by kernel_rfl)
  have h57 := @run_callFunc_extern Tryd.prog 53 _ (ReflectliteValue.method (ReflectliteValue.valueError "reflectlite.Value.IsNil" 0) ReflectliteValue.isNil) Tryd.func53 (by kernel_rfl) (by kernel_rfl) (by kernel_rfl) (by kernel_rfl)
  have h80 := @run_callFunc_extern Tryd.prog 110 _ (ReflectliteType.abiMethod fun t => do pure (.int .u8 (← Rtype.kind t))) Tryd.func110 (by kernel_rfl) (by kernel_rfl) (by kernel_rfl) (by kernel_rfl)
  have h93 := @run_callFunc_extern Tryd.prog 123 _ (ReflectliteType.method ReflectliteType.elem) Tryd.func123 (by kernel_rfl) (by kernel_rfl) (by kernel_rfl) (by kernel_rfl)
  have h94 := @run_callFunc_extern Tryd.prog 124 _ (ReflectliteType.relation "Implements" ReflectliteType.implements_) Tryd.func124 (by kernel_rfl) (by kernel_rfl) (by kernel_rfl) (by kernel_rfl)
  have f6 := valNT
  have f7 := typeNT
  have mK := methodKind
  have mE := methodElem
  have mI := methodImplements
  have k27 := kindNT
  have k25 := kindNE
  have e27 := elemNT
  have i25 := implNE
  have hlt := lt_of_cell hg
  have htl := lt_of_cell ht
  have n8 := isNilNT ⟨w.heap.size, 0, none⟩ t ((w.alloc (.cells #[.pointer (some t)] 56)).alloc (.cells #[.pointer (some ⟨3, 56, none⟩), .pointer (some ⟨w.heap.size, 0, none⟩), .int .u64 150] 84)) (by simp)
  have hg2 : ((w.alloc (.cells #[.pointer (some t)] 56)).alloc (.cells #[.pointer (some ⟨3, 56, none⟩), .pointer (some ⟨w.heap.size, 0, none⟩), .int .u64 150] 84)).cell? ⟨0, 0, none⟩ = some (.iface 109 (.agg #[.pointer (some ⟨3, 25, none⟩)])) := by
    rw [World.cell?_alloc_lt _ _ ⟨0, 0, none⟩ (by rw [World.size_alloc]; exact Nat.lt_succ_of_lt hlt), World.cell?_alloc_lt _ _ ⟨0, 0, none⟩ hlt]; exact hg
  have hb2 : Below w.heap.size w ((w.alloc (.cells #[.pointer (some t)] 56)).alloc (.cells #[.pointer (some ⟨3, 56, none⟩), .pointer (some ⟨w.heap.size, 0, none⟩), .int .u64 150] 84)) := ((Below.refl _ _).alloc (Nat.le_refl _) _).alloc (by simp) _
  have HA := Lib.hid (has ((w.alloc (.cells #[.pointer (some t)] 56)).alloc (.cells #[.pointer (some ⟨3, 56, none⟩), .pointer (some ⟨w.heap.size, 0, none⟩), .int .u64 150] 84)) ⟨w.heap.size, 0, none⟩ (by rw [World.cell?_alloc_lt _ _ ⟨w.heap.size, 0, none⟩ (by simp)]; simp)
    (by rw [World.cell?_alloc_lt _ _ t (by simp; omega), World.cell?_alloc_lt _ _ t htl]; exact ht)
    (by rw [World.frozen?_alloc_old _ _ t (by simp; omega), World.frozen?_alloc_old _ _ t (Nat.ne_of_lt htl)]; exact hf) hb2)
  have HB := Lib.hid hb2
  clear has hg ht hf hb2
  go_enter Tryd.func27, Tryd.ntmps27
  go_wp2_with (go_at_call 54; refine HA.out.mono ?_; rintro ev w' ⟨rfl, hq⟩; have HQ := Lib.hid hq; clear hq)
  go_ret
  exact ⟨rfl, _, HB.out, HQ.out⟩
set_option maxRecDepth 100000 in
set_option maxHeartbeats 4000000 in
theorem asA_of (d : TypeId) (v : Value) (t : Addr) (old : Value) (w : World) (r : Bool) (R : World → World → Prop) (hg : w.cell? ⟨0, 0, none⟩ = some (.iface 109 (.agg #[.pointer (some ⟨3, 25, none⟩)]))) (ht : w.cell? t = some old) (hf : w.frozen? t = false)
    (has : ∀ W a, W.cell? a = some (.pointer (some t)) → W.cell? t = some old → W.frozen? t = false → Below w.heap.size w W → Calls Tryd.prog 54 #[.iface d v, .iface 58 (.pointer (some t)), .agg #[.pointer (some ⟨3, 58, none⟩), .pointer (some a), .int .u64 150], .iface 109 (.agg #[.pointer (some ⟨3, 57, none⟩)])] W fun ev w' => ev = .returned (.bool r) ∧ R W w') :
    Calls Tryd.prog 27 #[.iface d v, .iface 58 (.pointer (some t))] w fun ev w' => ev = .returned (.bool r) ∧ ∃ W, Below w.heap.size w W ∧ R W w' := by
  have h55 := @run_callFunc_extern Tryd.prog 51 _ (fun args => ReflectliteValue.unpack (args.getD 0 (.tuple #[]))) Tryd.func51 (by kernel_rfl) (by kernel_rfl) (by kernel_rfl) (by kernel_rfl)
  have h56 := @run_callFunc_extern Tryd.prog 52 _ (ReflectliteValue.methodAny (ReflectliteValue.valueError "reflectlite.Value.Type" 0) (fun t _ _ _ => ReflectliteType.toType t)) Tryd.func52 (by kernel_rfl) (by kernel_rfl) (by kernel_rfl) (by kernel_rfl)
  have h57 := @run_callFunc_extern Tryd.prog 53 _ (ReflectliteValue.method (ReflectliteValue.valueError "reflectlite.Value.IsNil" 0) ReflectliteValue.isNil) Tryd.func53 (by kernel_rfl) (by kernel_rfl) (by kernel_rfl) (by kernel_rfl)
  have h80 := @run_callFunc_extern Tryd.prog 110 _ (ReflectliteType.abiMethod fun t => do pure (.int .u8 (← Rtype.kind t))) Tryd.func110 (by kernel_rfl) (by kernel_rfl) (by kernel_rfl) (by kernel_rfl)
  have h93 := @run_callFunc_extern Tryd.prog 123 _ (ReflectliteType.method ReflectliteType.elem) Tryd.func123 (by kernel_rfl) (by kernel_rfl) (by kernel_rfl) (by kernel_rfl)
  have h94 := @run_callFunc_extern Tryd.prog 124 _ (ReflectliteType.relation "Implements" ReflectliteType.implements_) Tryd.func124 (by kernel_rfl) (by kernel_rfl) (by kernel_rfl) (by kernel_rfl)
  have f6 := valAT
  have f7 := typeAT
  have mK := methodKind
  have mE := methodElem
  have mI := methodImplements
  have k27 := kindAT
  have k25 := kindAE
  have e27 := elemAT
  have i25 := implAE
  have hlt := lt_of_cell hg
  have htl := lt_of_cell ht
  have n8 := isNilAT ⟨w.heap.size, 0, none⟩ t ((w.alloc (.cells #[.pointer (some t)] 58)).alloc (.cells #[.pointer (some ⟨3, 58, none⟩), .pointer (some ⟨w.heap.size, 0, none⟩), .int .u64 150] 84)) (by simp)
  have hg2 : ((w.alloc (.cells #[.pointer (some t)] 58)).alloc (.cells #[.pointer (some ⟨3, 58, none⟩), .pointer (some ⟨w.heap.size, 0, none⟩), .int .u64 150] 84)).cell? ⟨0, 0, none⟩ = some (.iface 109 (.agg #[.pointer (some ⟨3, 25, none⟩)])) := by
    rw [World.cell?_alloc_lt _ _ ⟨0, 0, none⟩ (by rw [World.size_alloc]; exact Nat.lt_succ_of_lt hlt), World.cell?_alloc_lt _ _ ⟨0, 0, none⟩ hlt]; exact hg
  have hb2 : Below w.heap.size w ((w.alloc (.cells #[.pointer (some t)] 58)).alloc (.cells #[.pointer (some ⟨3, 58, none⟩), .pointer (some ⟨w.heap.size, 0, none⟩), .int .u64 150] 84)) := ((Below.refl _ _).alloc (Nat.le_refl _) _).alloc (by simp) _
  have HA := Lib.hid (has ((w.alloc (.cells #[.pointer (some t)] 58)).alloc (.cells #[.pointer (some ⟨3, 58, none⟩), .pointer (some ⟨w.heap.size, 0, none⟩), .int .u64 150] 84)) ⟨w.heap.size, 0, none⟩ (by rw [World.cell?_alloc_lt _ _ ⟨w.heap.size, 0, none⟩ (by simp)]; simp)
    (by rw [World.cell?_alloc_lt _ _ t (by simp; omega), World.cell?_alloc_lt _ _ t htl]; exact ht)
    (by rw [World.frozen?_alloc_old _ _ t (by simp; omega), World.frozen?_alloc_old _ _ t (Nat.ne_of_lt htl)]; exact hf) hb2)
  have HB := Lib.hid hb2
  clear has hg ht hf hb2
  go_enter Tryd.func27, Tryd.ntmps27
  go_wp2_with (go_at_call 54; refine HA.out.mono ?_; rintro ev w' ⟨rfl, hq⟩; have HQ := Lib.hid hq; clear hq)
  go_ret
  exact ⟨rfl, _, HB.out, HQ.out⟩
end Go.Proofs.YtljdnjidphmkjaaDoor
namespace Go.Proofs.YtljdnjidphmkjaaDoor
open Go Go.RowKit Go.Extern.Stop Go.Stop Go.Extern
abbrev ErrTab (w : World) : Prop := w.cell? ⟨0, 0, none⟩ = some (.iface 109 (.agg #[.pointer (some ⟨3, 25, none⟩)]))
theorem ErrTab.below {w w' : World} (h : ErrTab w) (hb : Below w.heap.size w w') : ErrTab w' := (hb.cell (p := ⟨0, 0, none⟩) (lt_of_cell h)).trans h
theorem num_nil (w : World) : Calls Tryd.prog 10 #[.nilIface] w fun e w' => e = .returned (.int .i64 0) ∧ w = w' := by
  go_enter Tryd.func10, Tryd.ntmps10
  go_wp2
  go_ret
  exact ⟨rfl, rfl⟩
theorem pos_nil (w : World) : Calls Tryd.prog 11 #[.nilIface] w fun e w' => e = .returned (.int .i64 (-1)) ∧ Below w.heap.size w w' := by
  go_enter Tryd.func11, Tryd.ntmps11
  go_wp2
  go_ret
  exact ⟨rfl, belowAlloc _ _⟩
theorem num_of (d : TypeId) (v : Value) (n : Int) (w : World) (hg : ErrTab w)
    (has : ∀ t a tg old W, W.cell? a = some (.pointer (some t)) → W.cell? t = some old → W.frozen? t = false → Below w.heap.size w W → Calls Tryd.prog 54 #[.iface d v, tg, .agg #[.pointer (some ⟨3, 56, none⟩), .pointer (some a), .int .u64 150], .iface 109 (.agg #[.pointer (some ⟨3, 43, none⟩)])] W (Hit t (.int .i64 n) W)) :
    Calls Tryd.prog 10 #[.iface d v] w fun e w' => e = .returned (.int .i64 n) ∧ Below w.heap.size w w' := by
  have hal := asN_of d v ⟨w.heap.size, 0, none⟩ (.int .i64 0) (w.alloc (.cells #[.int .i64 0] 43)) true (fun W w' => w'.cell? ⟨w.heap.size, 0, none⟩ = some (.int .i64 n) ∧ Below w.heap.size W w') (hg.below (belowAlloc _ _)) (by simp) (by simp) (fun W a h1 h2 h3 h4 => (has _ a _ _ W h1 h2 h3 ((belowAlloc _ _).trans (h4.mono (by simp)))).mono fun e w' h => ⟨h.1, h.2⟩)
  have HA := Lib.hid hal
  clear hal has
  go_enter Tryd.func10, Tryd.ntmps10
  go_wp2_with (go_at_call 27; refine HA.out.mono ?_; rintro ev w' ⟨rfl, W, hW, hcell, hb⟩; have HB := Lib.hid ((belowAlloc w _).trans ((hW.mono (by simp)).trans hb)); clear hW hb)
  go_ret
  exact ⟨rfl, HB.out⟩
theorem num_errno (n : Int) (w : World) (hg : ErrTab w) : Calls Tryd.prog 10 #[.iface 43 (.int .i64 n)] w fun e w' => e = .returned (.int .i64 n) ∧ Below w.heap.size w w' :=
  num_of _ _ n w hg fun t a tg old W h1 h2 h3 _ => asHitN n t a tg old W h1 h2 h3
theorem num_at (n : Int) (b o : Nat) (w : World) (hg : ErrTab w) (he : w.cell? ⟨b, o + 1, none⟩ = some (.iface 43 (.int .i64 n))) : Calls Tryd.prog 10 #[.iface 57 (.pointer (some ⟨b, o, none⟩))] w fun e w' => e = .returned (.int .i64 n) ∧ Below w.heap.size w w' :=
  num_of _ _ n w hg fun t a tg old W h1 h2 h3 h4 => asAtN n t a tg old W b o ((h4.cell (p := ⟨b, o + 1, none⟩) (lt_of_cell he)).trans he) h1 h2 h3
set_option maxRecDepth 100000 in
theorem pos_errno (n : Int) (w : World) (hg : ErrTab w) : Calls Tryd.prog 11 #[.iface 43 (.int .i64 n)] w fun e w' => e = .returned (.int .i64 (-1)) ∧ Below w.heap.size w w' := by
  have hal := asA_of 43 (.int .i64 n) ⟨w.heap.size, 0, none⟩ (.pointer none) (w.alloc (.cells #[.pointer none] 57)) false (fun W w' => Below W.heap.size W w') (hg.below (belowAlloc _ _)) (by simp) (by simp) (fun W a h1 h2 h3 h4 => asMissA n ⟨w.heap.size, 0, none⟩ a _ W)
  have HA := Lib.hid hal
  clear hal
  go_enter Tryd.func11, Tryd.ntmps11
  go_wp2_with (go_at_call 27; refine HA.out.mono ?_; rintro ev w' ⟨rfl, W, hW, hb⟩; have HB := Lib.hid ((belowAlloc w (.cells #[.pointer none] 57)).trans ((hW.trans (hb.mono hW.size)).mono (by simp))); clear hW hb)
  go_ret
  exact ⟨rfl, HB.out⟩
set_option maxRecDepth 100000 in
theorem pos_at (pos : Int) (b o : Nat) (w : World) (hg : ErrTab w) (he : w.cell? ⟨b, o, none⟩ = some (.int .i64 pos)) : Calls Tryd.prog 11 #[.iface 57 (.pointer (some ⟨b, o, none⟩))] w fun e w' => e = .returned (.int .i64 pos) ∧ Below w.heap.size w w' := by
  have hlt := lt_of_cell he
  have hal := asA_of 57 (.pointer (some ⟨b, o, none⟩)) ⟨w.heap.size, 0, none⟩ (.pointer none) (w.alloc (.cells #[.pointer none] 57)) true (fun W w' => w'.cell? ⟨w.heap.size, 0, none⟩ = some (.pointer (some ⟨b, o, none⟩)) ∧ Below w.heap.size W w') (hg.below (belowAlloc _ _)) (by simp) (by simp) (fun W a h1 h2 h3 h4 => (asHitA ⟨b, o, none⟩ ⟨w.heap.size, 0, none⟩ a _ _ W h1 h2 h3).mono fun e w' h => ⟨h.1, h.2⟩)
  have HA := Lib.hid hal
  have HE := Lib.hid he
  clear hal he
  go_enter Tryd.func11, Tryd.ntmps11
  go_wp2_with (go_at_call 27; refine HA.out.mono ?_; rintro ev w' ⟨rfl, W, hW, hcell, hb⟩; have hbb := (belowAlloc w (.cells #[.pointer none] 57)).trans ((hW.mono (by simp)).trans hb); have hpc := (hbb.cell (p := ⟨b, o, none⟩) hlt).trans HE.out; have HB := Lib.hid hbb; clear hW hb hbb)
  go_ret
  exact ⟨rfl, HB.out⟩
end Go.Proofs.YtljdnjidphmkjaaDoor
