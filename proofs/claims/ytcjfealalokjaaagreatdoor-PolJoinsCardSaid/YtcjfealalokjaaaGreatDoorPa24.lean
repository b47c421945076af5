/- Err, ErrAs, ErrAs2, ErrNum: merged. -/
import Derived.LaidEql
import Derived.Stop.Asserts
import Derived.RowKitTokens
import Derived.Test.YtcjfealalokjaaaGreatDoorPa02
set_option linter.all false
namespace Go.Proofs.YtcjfealalokjaaaGreatDoor
open Go Go.RowKit Go.Extern.Stop Go.Stop Go.Extern
theorem valNT (t : Addr) (w : World) : (ReflectliteValue.unpack (.iface 65 (.pointer (some t)))).run Tryz.prog w = .ok (.agg #[.pointer (some ⟨3, 65, none⟩), .pointer (some ⟨w.heap.size, 0, none⟩), .int .u64 150]) (w.alloc (.cells #[.pointer (some t)] 65)) := by kernel_rfl
theorem typeNT (a : Addr) (w : World) : (ReflectliteValue.methodAny (ReflectliteValue.valueError "reflectlite.Value.Type" 0) (fun t _ _ _ => ReflectliteType.toType t) #[.agg #[.pointer (some ⟨3, 65, none⟩), .pointer (some a), .int .u64 150]]).run Tryz.prog w = .ok (.iface 158 (.agg #[.pointer (some ⟨3, 65, none⟩)])) w := by kernel_rfl
theorem kindNT (w : World) : ((ReflectliteType.abiMethod fun t => (fun a : Nat => Value.int IntKind.u8 (a : Int)) <$> Rtype.kind t) #[.pointer (some ⟨3, 65, none⟩)]).run Tryz.prog w = .ok (.int .u8 22) w := by kernel_rfl
theorem kindNE (w : World) : ((ReflectliteType.abiMethod fun t => (fun a : Nat => Value.int IntKind.u8 (a : Int)) <$> Rtype.kind t) #[.pointer (some ⟨3, 63, none⟩)]).run Tryz.prog w = .ok (.int .u8 2) w := by kernel_rfl
theorem partsNT (a : Addr) (w : World) : (ReflectliteValue.parts (.agg #[.pointer (some ⟨3, 65, none⟩), .pointer (some a), .int .u64 150])).run Tryz.prog w = .ok (some (65, a, 150)) w := by kernel_rfl
theorem elemNT (w : World) : (ReflectliteType.method ReflectliteType.elem #[.agg #[.pointer (some ⟨3, 65, none⟩)]]).run Tryz.prog w = .ok (.iface 158 (.agg #[.pointer (some ⟨3, 63, none⟩)])) w := by kernel_rfl
theorem implNE (w : World) : (ReflectliteType.relation "Implements" ReflectliteType.implements_ #[.agg #[.pointer (some ⟨3, 63, none⟩)], .iface 158 (.agg #[.pointer (some ⟨3, 25, none⟩)])]).run Tryz.prog w = .ok (.bool true) w := by kernel_rfl
theorem elemOfNT (w : World) : (Rtype.elem? 65).run Tryz.prog w = .ok (some 63) w := by kernel_rfl
theorem mkNE (p : Addr) (w : World) : (ReflectliteValue.mk 63 p ReflectliteValue.flagAddr).run Tryz.prog w = .ok (.agg #[.pointer (some ⟨3, 63, none⟩), .pointer (some p), .int .u64 386]) w := by kernel_rfl
theorem partsANE (a : Addr) (w : World) : (ReflectliteValue.parts (.agg #[.pointer (some ⟨3, 63, none⟩), .pointer (some a), .int .u64 386])).run Tryz.prog w = .ok (some (63, a, 386)) w := by kernel_rfl
theorem partsNE (a : Addr) (w : World) : (ReflectliteValue.parts (.agg #[.pointer (some ⟨3, 63, none⟩), .pointer (some a), .int .u64 130])).run Tryz.prog w = .ok (some (63, a, 130)) w := by kernel_rfl
theorem directNE (w : World) : (Rtype.directlyAssignable 63 63).run Tryz.prog w = .ok true w := by kernel_rfl
theorem isNilNT (a p : Addr) (W : World) (ha : W.cell? a = some (.pointer (some p))) :
    (ReflectliteValue.method (ReflectliteValue.valueError "reflectlite.Value.IsNil" 0) ReflectliteValue.isNil #[.agg #[.pointer (some ⟨3, 65, none⟩), .pointer (some a), .int .u64 150]]).run Tryz.prog W = .ok (.bool false) W := by
  change Sem.run _ (Bind.bind (ReflectliteValue.parts _) _) _ = _
  simp only [Array.getLit, List.getElem_toArray, List.getElem_cons_zero, Sem.run_bind, partsNT, Result.andThen]
  simp [ReflectliteValue.isNil, loadVar, isAgg, underlying, Tryz.underlying65, ha, Result.andThen]
theorem elemVNT (a p : Addr) (W : World) (ha : W.cell? a = some (.pointer (some p))) :
    (ReflectliteValue.method (ReflectliteValue.valueError "reflectlite.Value.Elem" 0) ReflectliteValue.elem #[.agg #[.pointer (some ⟨3, 65, none⟩), .pointer (some a), .int .u64 150]]).run Tryz.prog W = .ok (.agg #[.pointer (some ⟨3, 63, none⟩), .pointer (some p), .int .u64 386]) W := by
  change Sem.run _ (Bind.bind (ReflectliteValue.parts _) _) _ = _
  simp only [Array.getLit, List.getElem_toArray, List.getElem_cons_zero, Sem.run_bind, partsNT, Result.andThen]
  simp [ReflectliteValue.elem, loadVar, isAgg, underlying, Tryz.underlying65, ha, Result.andThen, elemOfNT, mkNE]
theorem setNE (ta b : Addr) (n : Int) (old : Value) (W : World) (hb : W.cell? b = some (.int .i64 n)) (ht : W.cell? ta = some old) (hf : W.frozen? ta = false) :
    (ReflectliteValue.set #[.agg #[.pointer (some ⟨3, 63, none⟩), .pointer (some ta), .int .u64 386], .agg #[.pointer (some ⟨3, 63, none⟩), .pointer (some b), .int .u64 130]]).run Tryz.prog W = .ok (.tuple #[]) (W.setCell ta (.int .i64 n)) := by
  change Sem.run _ (Bind.bind (ReflectliteValue.parts _) _) _ = _
  simp only [Array.getLit, List.getElem_toArray, List.getElem_cons_zero, List.getElem_cons_succ, Sem.run_bind, partsANE, partsNE, Result.andThen]
  simp [ReflectliteValue.flagAddr, loadVar, isAgg, underlying, Tryz.underlying63, hb, Result.andThen, directNE, storeVar, Value.cells, storeCells, Addr.add]
  rw [run_store Tryz.prog W ta _ _ (by rfl)]
  simp [ht, hf]
theorem typeOfN (v : Value) (w : World) : (ReflectliteType.typeOf #[.iface 63 v]).run Tryz.prog w = .ok (.iface 158 (.agg #[.pointer (some ⟨3, 63, none⟩)])) w := by kernel_rfl
theorem valueOfN (n : Int) (w : World) : (ReflectliteValue.unpack (.iface 63 (.int .i64 n))).run Tryz.prog w = .ok (.agg #[.pointer (some ⟨3, 63, none⟩), .pointer (some ⟨w.heap.size, 0, none⟩), .int .u64 130]) (w.alloc (.cells #[(.int .i64 n)] 63)) := by kernel_rfl
theorem assignNN (w : World) : (ReflectliteType.relation "AssignableTo" ReflectliteType.assignableTo #[.agg #[.pointer (some ⟨3, 63, none⟩)], .iface 158 (.agg #[.pointer (some ⟨3, 63, none⟩)])]).run Tryz.prog w = .ok (.bool true) w := by kernel_rfl
theorem methodKind (h : Value) (w : World) : (Go.method 367 158 (.agg #[h]) "Kind").run Tryz.prog w = .ok (237, h) w := by kernel_rfl
theorem methodElem (h : Value) (w : World) : (Go.method 367 158 (.agg #[h]) "Elem").run Tryz.prog w = .ok (250, .agg #[h]) w := by kernel_rfl
theorem methodImplements (h : Value) (w : World) : (Go.method 367 158 (.agg #[h]) "Implements").run Tryz.prog w = .ok (251, .agg #[h]) w := by kernel_rfl
theorem methodAssignableTo (h : Value) (w : World) : (Go.method 367 158 (.agg #[h]) "AssignableTo").run Tryz.prog w = .ok (248, .agg #[h]) w := by kernel_rfl
end Go.Proofs.YtcjfealalokjaaaGreatDoor
namespace Go.Proofs.YtcjfealalokjaaaGreatDoor
open Go Go.RowKit Go.Extern.Stop Go.Stop Go.Extern
/-- What a hit leaves: the variable at t holds v; below its block all is as it was. -/
def Hit (t : Addr) (v : Value) (w : World) (e : Ending) (w' : World) : Prop := e = .returned (.bool true) ∧ w'.cell? t = some v ∧ Below t.block w w'
set_option maxHeartbeats 4000000 in
theorem asHitN (n : Int) (t a : Addr) (tg old : Value) (w : World) (ha : w.cell? a = some (.pointer (some t))) (ht : w.cell? t = some old) (hf : w.frozen? t = false) :
    Calls Tryz.prog 66 #[.iface 63 (.int .i64 n), tg, .agg #[.pointer (some ⟨3, 65, none⟩), .pointer (some a), .int .u64 150], .iface 158 (.agg #[.pointer (some ⟨3, 63, none⟩)])] w (Hit t (.int .i64 n) w) := by
  have h55 := @run_callFunc_extern Tryz.prog 63 _ (fun args => ReflectliteValue.unpack (args.getD 0 (.tuple #[]))) Tryz.func63 (by kernel_rfl) (by kernel_rfl) (by kernel_rfl) (by kernel_rfl)
  have h62 := @run_callFunc_extern Tryz.prog 116 _ ReflectliteType.typeOf Tryz.func116 (by kernel_rfl) (by kernel_rfl) (by kernel_rfl) (by kernel_rfl)
  have h91 := @run_callFunc_extern Tryz.prog 248 _ (ReflectliteType.relation "AssignableTo" ReflectliteType.assignableTo) Tryz.func248 (by kernel_rfl) (by kernel_rfl) (by kernel_rfl) (by kernel_rfl)
  have h63 := @run_callFunc_extern Tryz.prog 117 _ (ReflectliteValue.method (ReflectliteValue.valueError "reflectlite.Value.Elem" 0) ReflectliteValue.elem) Tryz.func117 (by kernel_rfl) (by kernel_rfl) (by kernel_rfl) (by kernel_rfl)
  have h64 := @run_callFunc_extern Tryz.prog 118 _ ReflectliteValue.set Tryz.func118 (by kernel_rfl) (by kernel_rfl) (by kernel_rfl) (by kernel_rfl)
  have tO := typeOfN
  have mA := methodAssignableTo
  have aN := assignNN
  have vN := valueOfN
  have hal := lt_of_cell ha
  have htl := lt_of_cell ht
  have el := elemVNT a t (w.alloc (.cells #[.pointer (some ⟨3, 65, none⟩), .pointer (some a), .int .u64 150] 114)) (by rw [World.cell?_alloc_lt _ _ a hal]; exact ha)
  have st := setNE t ⟨w.heap.size + 1, 0, none⟩ n old ((w.alloc (.cells #[.pointer (some ⟨3, 65, none⟩), .pointer (some a), .int .u64 150] 114)).alloc (.cells #[(.int .i64 n)] 63))
    (by rw [World.cell?_alloc_at _ _ _ _ (by simp)]; rfl)
    (by rw [World.cell?_alloc_lt _ _ t (by simp; omega), World.cell?_alloc_lt _ _ t htl]; exact ht)
    (by rw [World.frozen?_alloc_old _ _ t (by simp; omega), World.frozen?_alloc_old _ _ t (Nat.ne_of_lt htl)]; exact hf)
  have HF : Hid (Hit t (.int .i64 n) w (.returned (.bool true)) (((w.alloc (.cells #[.pointer (some ⟨3, 65, none⟩), .pointer (some a), .int .u64 150] 114)).alloc (.cells #[(.int .i64 n)] 63)).setCell t (.int .i64 n))) := Lib.hid ⟨rfl, World.cell?_setCell_same _ _ _ (u := old) (by rw [World.cell?_alloc_lt _ _ t (by simp; omega), World.cell?_alloc_lt _ _ t htl]; exact ht), (((Below.refl _ _).alloc (by omega) _).alloc (by simp; omega) _).setCell (Nat.le_refl _) _⟩
  clear ha ht hf
  go_enter Tryz.func66, Tryz.ntmps66
  go_wp2
  refine wp_loop_rounds 1 ?_
  rw [rounds_succ]
  go_wp2
  go_ret
  exact HF.out
end Go.Proofs.YtcjfealalokjaaaGreatDoor
namespace Go.Proofs.YtcjfealalokjaaaGreatDoor
open Go Go.RowKit Go.Extern.Stop Go.Stop Go.Extern
set_option maxRecDepth 100000 in
set_option maxHeartbeats 4000000 in
theorem asN_of (d : TypeId) (v : Value) (t : Addr) (old : Value) (w : World) (r : Bool) (R : World → World → Prop) (hg : w.cell? ⟨0, 0, none⟩ = some (.iface 158 (.agg #[.pointer (some ⟨3, 25, none⟩)]))) (ht : w.cell? t = some old) (hf : w.frozen? t = false)
    (has : ∀ W a, W.cell? a = some (.pointer (some t)) → W.cell? t = some old → W.frozen? t = false → Below w.heap.size w W → Calls Tryz.prog 66 #[.iface d v, .iface 65 (.pointer (some t)), .agg #[.pointer (some ⟨3, 65, none⟩), .pointer (some a), .int .u64 150], .iface 158 (.agg #[.pointer (some ⟨3, 63, none⟩)])] W fun ev w' => ev = .returned (.bool r) ∧ R W w') :
    Calls Tryz.prog 31 #[.iface d v, .iface 65 (.pointer (some t))] w fun ev w' => ev = .returned (.bool r) ∧ ∃ W, Below w.heap.size w W ∧ R W w' := by
  have h55 := @run_callFunc_extern Tryz.prog 63 _ (fun args => ReflectliteValue.unpack (args.getD 0 (.tuple #[]))) Tryz.func63 (by kernel_rfl) (by kernel_rfl) (by kernel_rfl) (by kernel_rfl)
  have h56 := @run_callFunc_extern Tryz.prog 64 _ (ReflectliteValue.methodAny (ReflectliteValue.valueError "reflectlite.Value.Type" 0) (fun t _ _ _ => ReflectliteType.toType t)) Tryz.func64 (by kernel_rfl) (by kernel_rfl) (by kernel_rfl) (by kernel_rfl)
  have h57 := @run_callFunc_extern Tryz.prog 65 _ (ReflectliteValue.method (ReflectliteValue.valueError "reflectlite.Value.IsNil" 0) ReflectliteValue.isNil) Tryz.func65 (by kernel_rfl) (by kernel_rfl) (by kernel_rfl) (by kernel_rfl)
  have h80 := @run_callFunc_extern Tryz.prog 237 _ (ReflectliteType.abiMethod fun t => do pure (.int .u8 (← Rtype.kind t))) Tryz.func237 (by kernel_rfl) (by kernel_rfl) (by kernel_rfl) (by kernel_rfl)
  have h93 := @run_callFunc_extern Tryz.prog 250 _ (ReflectliteType.method ReflectliteType.elem) Tryz.func250 (by kernel_rfl) (by kernel_rfl) (by kernel_rfl) (by kernel_rfl)
  have h94 := @run_callFunc_extern Tryz.prog 251 _ (ReflectliteType.relation "Implements" ReflectliteType.implements_) Tryz.func251 (by kernel_rfl) (by kernel_rfl) (by kernel_rfl) (by kernel_rfl)
  have f6 := valNT
  have f7 := typeNT
  have mK := methodKind
  have mE := methodElem
  have mI := methodImplements
  have k27 := kindNT
  have k25 := kindNE
  have e27 := elemNT
  have i25 := implNE
  have hlt := lt_of_cell hg
  have htl := lt_of_cell ht
  have n8 := isNilNT ⟨w.heap.size, 0, none⟩ t ((w.alloc (.cells #[.pointer (some t)] 65)).alloc (.cells #[.pointer (some ⟨3, 65, none⟩), .pointer (some ⟨w.heap.size, 0, none⟩), .int .u64 150] 114)) (by simp)
  have hg2 : ((w.alloc (.cells #[.pointer (some t)] 65)).alloc (.cells #[.pointer (some ⟨3, 65, none⟩), .pointer (some ⟨w.heap.size, 0, none⟩), .int .u64 150] 114)).cell? ⟨0, 0, none⟩ = some (.iface 158 (.agg #[.pointer (some ⟨3, 25, none⟩)])) := by
    rw [World.cell?_alloc_lt _ _ ⟨0, 0, none⟩ (by rw [World.size_alloc]; exact Nat.lt_succ_of_lt hlt), World.cell?_alloc_lt _ _ ⟨0, 0, none⟩ hlt]; exact hg
  have hb2 : Below w.heap.size w ((w.alloc (.cells #[.pointer (some t)] 65)).alloc (.cells #[.pointer (some ⟨3, 65, none⟩), .pointer (some ⟨w.heap.size, 0, none⟩), .int .u64 150] 114)) := ((Below.refl _ _).alloc (Nat.le_refl _) _).alloc (by simp) _
  have HA := Lib.hid (has ((w.alloc (.cells #[.pointer (some t)] 65)).alloc (.cells #[.pointer (some ⟨3, 65, none⟩), .pointer (some ⟨w.heap.size, 0, none⟩), .int .u64 150] 114)) ⟨w.heap.size, 0, none⟩ (by rw [World.cell?_alloc_lt _ _ ⟨w.heap.size, 0, none⟩ (by simp)]; simp)
    (by rw [World.cell?_alloc_lt _ _ t (by simp; omega), World.cell?_alloc_lt _ _ t htl]; exact ht)
    (by rw [World.frozen?_alloc_old _ _ t (by simp; omega), World.frozen?_alloc_old _ _ t (Nat.ne_of_lt htl)]; exact hf) hb2)
  have HB := Lib.hid hb2
  clear has hg ht hf hb2
  go_enter Tryz.func31, Tryz.ntmps31
  go_wp2_with (go_at_call 66; refine HA.out.mono ?_; rintro ev w' ⟨rfl, hq⟩; have HQ := Lib.hid hq; clear hq)
  go_ret
  exact ⟨rfl, _, HB.out, HQ.out⟩
end Go.Proofs.YtcjfealalokjaaaGreatDoor
namespace Go.Proofs.YtcjfealalokjaaaGreatDoor
open Go Go.RowKit Go.Extern.Stop Go.Stop Go.Extern
abbrev ErrTab (w : World) : Prop := w.cell? ⟨0, 0, none⟩ = some (.iface 158 (.agg #[.pointer (some ⟨3, 25, none⟩)]))
theorem ErrTab.below {w w' : World} (h : ErrTab w) (hb : Below w.heap.size w w') : ErrTab w' := (hb.cell (p := ⟨0, 0, none⟩) (lt_of_cell h)).trans h
theorem num_of (d : TypeId) (v : Value) (n : Int) (w : World) (hg : ErrTab w)
    (has : ∀ t a tg old W, W.cell? a = some (.pointer (some t)) → W.cell? t = some old → W.frozen? t = false → Below w.heap.size w W → Calls Tryz.prog 66 #[.iface d v, tg, .agg #[.pointer (some ⟨3, 65, none⟩), .pointer (some a), .int .u64 150], .iface 158 (.agg #[.pointer (some ⟨3, 63, none⟩)])] W (Hit t (.int .i64 n) W)) :
    Calls Tryz.prog 12 #[.iface d v] w fun e w' => e = .returned (.int .i64 n) ∧ Below w.heap.size w w' := by
  have hal := asN_of d v ⟨w.heap.size, 0, none⟩ (.int .i64 0) (w.alloc (.cells #[.int .i64 0] 63)) true (fun W w' => w'.cell? ⟨w.heap.size, 0, none⟩ = some (.int .i64 n) ∧ Below w.heap.size W w') (hg.below (belowAlloc _ _)) (by simp) (by simp) (fun W a h1 h2 h3 h4 => (has _ a _ _ W h1 h2 h3 ((belowAlloc _ _).trans (h4.mono (by simp)))).mono fun e w' h => ⟨h.1, h.2⟩)
  have HA := Lib.hid hal
  clear hal has
  go_enter Tryz.func12, Tryz.ntmps12
  go_wp2_with (go_at_call 31; refine HA.out.mono ?_; rintro ev w' ⟨rfl, W, hW, hcell, hb⟩; have HB := Lib.hid ((belowAlloc w _).trans ((hW.mono (by simp)).trans hb)); clear hW hb)
  go_ret
  exact ⟨rfl, HB.out⟩
theorem num_errno (n : Int) (w : World) (hg : ErrTab w) : Calls Tryz.prog 12 #[.iface 63 (.int .i64 n)] w fun e w' => e = .returned (.int .i64 n) ∧ Below w.heap.size w w' :=
  num_of _ _ n w hg fun t a tg old W h1 h2 h3 _ => asHitN n t a tg old W h1 h2 h3
end Go.Proofs.YtcjfealalokjaaaGreatDoor
