
import Derived.LaidEql
import Derived.Stop.Asserts
import Derived.RowKitTokens
import Derived.Deep.RegionHeld3
import Derived.Maps.RangeWalk
import Derived.Laws.EntriesVeiled
import Derived.Shelf.Abstract
import Derived.Test.YtceddodfddlncaaGreatDoorJb01
set_option maxRecDepth 100000
set_option maxHeartbeats 16000000
set_option linter.all false
namespace Go.Proofs.YtceddodfddlncaaGreatDoor
open Go Go.RowKit Go.Extern.Stop Go.Stop Go.Extern
theorem valNT (t:Addr) (w:World):(ReflectliteValue.unpack (.iface 58 (.pointer (some t)))).run Tryz.prog w= .ok (.agg #[.pointer (some ⟨7,58,none⟩),.pointer (some ⟨w.heap.size,0,none⟩),.int .u64 150]) (w.alloc (.cells #[.pointer (some t)] 58)):=by kernel_rfl
theorem typeNT (a:Addr) (w:World):(ReflectliteValue.methodAny (ReflectliteValue.valueError "reflectlite.Value.Type" 0) (fun t _ _ _=>ReflectliteType.toType t) #[.agg #[.pointer (some ⟨7,58,none⟩),.pointer (some a),.int .u64 150]]).run Tryz.prog w= .ok (.iface 137 (.agg #[.pointer (some ⟨7,58,none⟩)])) w:=by kernel_rfl
theorem kindNT (w:World):((ReflectliteType.abiMethod fun t=>(fun a:Nat=>Value.int IntKind.u8 (a:Int))<$>Rtype.kind t) #[.pointer (some ⟨7,58,none⟩)]).run Tryz.prog w= .ok (.int .u8 22) w:=by kernel_rfl
theorem kindNE (w:World):((ReflectliteType.abiMethod fun t=>(fun a:Nat=>Value.int IntKind.u8 (a:Int))<$>Rtype.kind t) #[.pointer (some ⟨7,54,none⟩)]).run Tryz.prog w= .ok (.int .u8 2) w:=by kernel_rfl
theorem partsNT (a:Addr) (w:World):(ReflectliteValue.parts (.agg #[.pointer (some ⟨7,58,none⟩),.pointer (some a),.int .u64 150])).run Tryz.prog w= .ok (some (58,a,150)) w:=by kernel_rfl
theorem elemNT (w:World):(ReflectliteType.method ReflectliteType.elem #[.agg #[.pointer (some ⟨7,58,none⟩)]]).run Tryz.prog w= .ok (.iface 137 (.agg #[.pointer (some ⟨7,54,none⟩)])) w:=by kernel_rfl
theorem implNE (w:World):(ReflectliteType.relation "Implements" ReflectliteType.implements_ #[.agg #[.pointer (some ⟨7,54,none⟩)],.iface 137 (.agg #[.pointer (some ⟨7,26,none⟩)])]).run Tryz.prog w= .ok (.bool true) w:=by kernel_rfl
theorem elemOfNT (w:World):(Rtype.elem? 58).run Tryz.prog w= .ok (some 54) w:=by kernel_rfl
theorem mkNE (p:Addr) (w:World):(ReflectliteValue.mk 54 p ReflectliteValue.flagAddr).run Tryz.prog w= .ok (.agg #[.pointer (some ⟨7,54,none⟩),.pointer (some p),.int .u64 386]) w:=by kernel_rfl
theorem partsANE (a:Addr) (w:World):(ReflectliteValue.parts (.agg #[.pointer (some ⟨7,54,none⟩),.pointer (some a),.int .u64 386])).run Tryz.prog w= .ok (some (54,a,386)) w:=by kernel_rfl
theorem partsNE (a:Addr) (w:World):(ReflectliteValue.parts (.agg #[.pointer (some ⟨7,54,none⟩),.pointer (some a),.int .u64 130])).run Tryz.prog w= .ok (some (54,a,130)) w:=by kernel_rfl
theorem directNE (w:World):(Rtype.directlyAssignable 54 54).run Tryz.prog w= .ok true w:=by kernel_rfl
theorem isNilNT (a p:Addr) (W:World) (ha:W.cell? a=some (.pointer (some p))):
  (ReflectliteValue.method (ReflectliteValue.valueError "reflectlite.Value.IsNil" 0) ReflectliteValue.isNil #[.agg #[.pointer (some ⟨7,58,none⟩),.pointer (some a),.int .u64 150]]).run Tryz.prog W= .ok (.bool false) W:=by
 change Sem.run _ (Bind.bind (ReflectliteValue.parts _) _) _=_
 simp only[Array.getLit,List.getElem_toArray,List.getElem_cons_zero,Sem.run_bind,partsNT,Result.andThen]
 simp[ReflectliteValue.isNil,loadVar,isAgg,underlying,Tryz.underlying58,ha,Result.andThen]
theorem elemVNT (a p:Addr) (W:World) (ha:W.cell? a=some (.pointer (some p))):
  (ReflectliteValue.method (ReflectliteValue.valueError "reflectlite.Value.Elem" 0) ReflectliteValue.elem #[.agg #[.pointer (some ⟨7,58,none⟩),.pointer (some a),.int .u64 150]]).run Tryz.prog W= .ok (.agg #[.pointer (some ⟨7,54,none⟩),.pointer (some p),.int .u64 386]) W:=by
 change Sem.run _ (Bind.bind (ReflectliteValue.parts _) _) _=_
 simp only[Array.getLit,List.getElem_toArray,List.getElem_cons_zero,Sem.run_bind,partsNT,Result.andThen]
 simp[ReflectliteValue.elem,loadVar,isAgg,underlying,Tryz.underlying58,ha,Result.andThen,elemOfNT,mkNE]
theorem setNE (ta b:Addr) (n:Int) (old:Value) (W:World) (hb:W.cell? b=some (.int .i64 n)) (ht:W.cell? ta=some old) (hf:W.frozen? ta=false):
  (ReflectliteValue.set #[.agg #[.pointer (some ⟨7,54,none⟩),.pointer (some ta),.int .u64 386],.agg #[.pointer (some ⟨7,54,none⟩),.pointer (some b),.int .u64 130]]).run Tryz.prog W= .ok (.tuple #[]) (W.setCell ta (.int .i64 n)):=by
 change Sem.run _ (Bind.bind (ReflectliteValue.parts _) _) _=_
 simp only[Array.getLit,List.getElem_toArray,List.getElem_cons_zero,List.getElem_cons_succ,Sem.run_bind,partsANE,partsNE,Result.andThen]
 simp[ReflectliteValue.flagAddr,loadVar,isAgg,underlying,Tryz.underlying54,hb,Result.andThen,directNE,storeVar,Value.cells,storeCells,Addr.add]
 rw[run_store Tryz.prog W ta _ _ (by rfl)]
 simp[ht,hf]
theorem valAT (t:Addr) (w:World):(ReflectliteValue.unpack (.iface 261 (.pointer (some t)))).run Tryz.prog w= .ok (.agg #[.pointer (some ⟨7,261,none⟩),.pointer (some ⟨w.heap.size,0,none⟩),.int .u64 150]) (w.alloc (.cells #[.pointer (some t)] 261)):=by kernel_rfl
theorem typeAT (a:Addr) (w:World):(ReflectliteValue.methodAny (ReflectliteValue.valueError "reflectlite.Value.Type" 0) (fun t _ _ _=>ReflectliteType.toType t) #[.agg #[.pointer (some ⟨7,261,none⟩),.pointer (some a),.int .u64 150]]).run Tryz.prog w= .ok (.iface 137 (.agg #[.pointer (some ⟨7,261,none⟩)])) w:=by kernel_rfl
theorem kindAT (w:World):((ReflectliteType.abiMethod fun t=>(fun a:Nat=>Value.int IntKind.u8 (a:Int))<$>Rtype.kind t) #[.pointer (some ⟨7,261,none⟩)]).run Tryz.prog w= .ok (.int .u8 22) w:=by kernel_rfl
theorem kindAE (w:World):((ReflectliteType.abiMethod fun t=>(fun a:Nat=>Value.int IntKind.u8 (a:Int))<$>Rtype.kind t) #[.pointer (some ⟨7,188,none⟩)]).run Tryz.prog w= .ok (.int .u8 22) w:=by kernel_rfl
theorem partsAT (a:Addr) (w:World):(ReflectliteValue.parts (.agg #[.pointer (some ⟨7,261,none⟩),.pointer (some a),.int .u64 150])).run Tryz.prog w= .ok (some (261,a,150)) w:=by kernel_rfl
theorem elemAT (w:World):(ReflectliteType.method ReflectliteType.elem #[.agg #[.pointer (some ⟨7,261,none⟩)]]).run Tryz.prog w= .ok (.iface 137 (.agg #[.pointer (some ⟨7,188,none⟩)])) w:=by kernel_rfl
theorem implAE (w:World):(ReflectliteType.relation "Implements" ReflectliteType.implements_ #[.agg #[.pointer (some ⟨7,188,none⟩)],.iface 137 (.agg #[.pointer (some ⟨7,26,none⟩)])]).run Tryz.prog w= .ok (.bool true) w:=by kernel_rfl
theorem elemOfAT (w:World):(Rtype.elem? 261).run Tryz.prog w= .ok (some 188) w:=by kernel_rfl
theorem mkAE (p:Addr) (w:World):(ReflectliteValue.mk 188 p ReflectliteValue.flagAddr).run Tryz.prog w= .ok (.agg #[.pointer (some ⟨7,188,none⟩),.pointer (some p),.int .u64 406]) w:=by kernel_rfl
theorem partsAAE (a:Addr) (w:World):(ReflectliteValue.parts (.agg #[.pointer (some ⟨7,188,none⟩),.pointer (some a),.int .u64 406])).run Tryz.prog w= .ok (some (188,a,406)) w:=by kernel_rfl
theorem partsAE (a:Addr) (w:World):(ReflectliteValue.parts (.agg #[.pointer (some ⟨7,188,none⟩),.pointer (some a),.int .u64 150])).run Tryz.prog w= .ok (some (188,a,150)) w:=by kernel_rfl
theorem directAE (w:World):(Rtype.directlyAssignable 188 188).run Tryz.prog w= .ok true w:=by kernel_rfl
theorem isNilAT (a p:Addr) (W:World) (ha:W.cell? a=some (.pointer (some p))):
  (ReflectliteValue.method (ReflectliteValue.valueError "reflectlite.Value.IsNil" 0) ReflectliteValue.isNil #[.agg #[.pointer (some ⟨7,261,none⟩),.pointer (some a),.int .u64 150]]).run Tryz.prog W= .ok (.bool false) W:=by
 change Sem.run _ (Bind.bind (ReflectliteValue.parts _) _) _=_
 simp only[Array.getLit,List.getElem_toArray,List.getElem_cons_zero,Sem.run_bind,partsAT,Result.andThen]
 simp[ReflectliteValue.isNil,loadVar,isAgg,underlying,Tryz.underlying261,ha,Result.andThen]
theorem elemVAT (a p:Addr) (W:World) (ha:W.cell? a=some (.pointer (some p))):
  (ReflectliteValue.method (ReflectliteValue.valueError "reflectlite.Value.Elem" 0) ReflectliteValue.elem #[.agg #[.pointer (some ⟨7,261,none⟩),.pointer (some a),.int .u64 150]]).run Tryz.prog W= .ok (.agg #[.pointer (some ⟨7,188,none⟩),.pointer (some p),.int .u64 406]) W:=by
 change Sem.run _ (Bind.bind (ReflectliteValue.parts _) _) _=_
 simp only[Array.getLit,List.getElem_toArray,List.getElem_cons_zero,Sem.run_bind,partsAT,Result.andThen]
 simp[ReflectliteValue.elem,loadVar,isAgg,underlying,Tryz.underlying261,ha,Result.andThen,elemOfAT,mkAE]
theorem setAE (ta b:Addr) (p:Addr) (old:Value) (W:World) (hb:W.cell? b=some (.pointer (some p))) (ht:W.cell? ta=some old) (hf:W.frozen? ta=false):
  (ReflectliteValue.set #[.agg #[.pointer (some ⟨7,188,none⟩),.pointer (some ta),.int .u64 406],.agg #[.pointer (some ⟨7,188,none⟩),.pointer (some b),.int .u64 150]]).run Tryz.prog W= .ok (.tuple #[]) (W.setCell ta (.pointer (some p))):=by
 change Sem.run _ (Bind.bind (ReflectliteValue.parts _) _) _=_
 simp only[Array.getLit,List.getElem_toArray,List.getElem_cons_zero,List.getElem_cons_succ,Sem.run_bind,partsAAE,partsAE,Result.andThen]
 simp[ReflectliteValue.flagAddr,loadVar,isAgg,underlying,Tryz.underlying188,hb,Result.andThen,directAE,storeVar,Value.cells,storeCells,Addr.add]
 rw[run_store Tryz.prog W ta _ _ (by rfl)]
 simp[ht,hf]
theorem typeOfN (v:Value) (w:World):(ReflectliteType.typeOf #[.iface 54 v]).run Tryz.prog w= .ok (.iface 137 (.agg #[.pointer (some ⟨7,54,none⟩)])) w:=by kernel_rfl
theorem valueOfN (n:Int) (w:World):(ReflectliteValue.unpack (.iface 54 (.int .i64 n))).run Tryz.prog w= .ok (.agg #[.pointer (some ⟨7,54,none⟩),.pointer (some ⟨w.heap.size,0,none⟩),.int .u64 130]) (w.alloc (.cells #[(.int .i64 n)] 54)):=by kernel_rfl
theorem assignNN (w:World):(ReflectliteType.relation "AssignableTo" ReflectliteType.assignableTo #[.agg #[.pointer (some ⟨7,54,none⟩)],.iface 137 (.agg #[.pointer (some ⟨7,54,none⟩)])]).run Tryz.prog w= .ok (.bool true) w:=by kernel_rfl
theorem typeOfA (v:Value) (w:World):(ReflectliteType.typeOf #[.iface 188 v]).run Tryz.prog w= .ok (.iface 137 (.agg #[.pointer (some ⟨7,188,none⟩)])) w:=by kernel_rfl
theorem valueOfA (p:Addr) (w:World):(ReflectliteValue.unpack (.iface 188 (.pointer (some p)))).run Tryz.prog w= .ok (.agg #[.pointer (some ⟨7,188,none⟩),.pointer (some ⟨w.heap.size,0,none⟩),.int .u64 150]) (w.alloc (.cells #[(.pointer (some p))] 188)):=by kernel_rfl
theorem assignAA (w:World):(ReflectliteType.relation "AssignableTo" ReflectliteType.assignableTo #[.agg #[.pointer (some ⟨7,188,none⟩)],.iface 137 (.agg #[.pointer (some ⟨7,188,none⟩)])]).run Tryz.prog w= .ok (.bool true) w:=by kernel_rfl
theorem zlt (h:Value) (w:World):(Go.method 404 137 (.agg #[h]) "Kind").run Tryz.prog w= .ok (244,h) w:=by kernel_rfl
theorem zlu (h:Value) (w:World):(Go.method 404 137 (.agg #[h]) "Elem").run Tryz.prog w= .ok (257,.agg #[h]) w:=by kernel_rfl
theorem zfd (h:Value) (w:World):(Go.method 404 137 (.agg #[h]) "Implements").run Tryz.prog w= .ok (258,.agg #[h]) w:=by kernel_rfl
theorem zcy (h:Value) (w:World):(Go.method 404 137 (.agg #[h]) "AssignableTo").run Tryz.prog w= .ok (255,.agg #[h]) w:=by kernel_rfl
def Hit (t:Addr) (v:Value) (w:World) (e:Ending) (w':World):Prop:=e= .returned (.bool true)∧w'.cell? t=some v∧Below t.block w w'
theorem asHitN (n:Int) (t a:Addr) (tg old:Value) (w:World) (ha:w.cell? a=some (.pointer (some t))) (ht:w.cell? t=some old) (hf:w.frozen? t=false):
  Calls Tryz.prog 60 #[.iface 54 (.int .i64 n),tg,.agg #[.pointer (some ⟨7,58,none⟩),.pointer (some a),.int .u64 150],.iface 137 (.agg #[.pointer (some ⟨7,54,none⟩)])] w (Hit t (.int .i64 n) w):=by
 have h55:= @run_callFunc_extern Tryz.prog 57 _ (fun args=>ReflectliteValue.unpack (args.getD 0 (.tuple #[]))) Tryz.func57 (by kernel_rfl) (by kernel_rfl) (by kernel_rfl) (by kernel_rfl)
 have h62:= @run_callFunc_extern Tryz.prog 88 _ ReflectliteType.typeOf Tryz.func88 (by kernel_rfl) (by kernel_rfl) (by kernel_rfl) (by kernel_rfl)
 have h91:= @run_callFunc_extern Tryz.prog 255 _ (ReflectliteType.relation "AssignableTo" ReflectliteType.assignableTo) Tryz.func255 (by kernel_rfl) (by kernel_rfl) (by kernel_rfl) (by kernel_rfl)
 have h63:= @run_callFunc_extern Tryz.prog 89 _ (ReflectliteValue.method (ReflectliteValue.valueError "reflectlite.Value.Elem" 0) ReflectliteValue.elem) Tryz.func89 (by kernel_rfl) (by kernel_rfl) (by kernel_rfl) (by kernel_rfl)
 have h64:= @run_callFunc_extern Tryz.prog 90 _ ReflectliteValue.set Tryz.func90 (by kernel_rfl) (by kernel_rfl) (by kernel_rfl) (by kernel_rfl)
 have tO:=typeOfN
 have mA:=zcy
 have aN:=assignNN
 have vN:=valueOfN
 have hal:=zaa ha
 have htl:=zaa ht
 have el:=elemVNT a t (w.alloc (.cells #[.pointer (some ⟨7,58,none⟩),.pointer (some a),.int .u64 150] 88)) (by rw[World.cell?_alloc_lt _ _ a hal];exact ha)
 have st:=setNE t ⟨w.heap.size+1,0,none⟩ n old ((w.alloc (.cells #[.pointer (some ⟨7,58,none⟩),.pointer (some a),.int .u64 150] 88)).alloc (.cells #[(.int .i64 n)] 54))
  (by rw[World.cell?_alloc_at _ _ _ _ (by simp)];rfl)
  (by rw[World.cell?_alloc_lt _ _ t (by simp;omega),World.cell?_alloc_lt _ _ t htl];exact ht)
  (by rw[World.frozen?_alloc_old _ _ t (by simp;omega),World.frozen?_alloc_old _ _ t (Nat.ne_of_lt htl)];exact hf)
 have HF:Hid (Hit t (.int .i64 n) w (.returned (.bool true)) (((w.alloc (.cells #[.pointer (some ⟨7,58,none⟩),.pointer (some a),.int .u64 150] 88)).alloc (.cells #[(.int .i64 n)] 54)).setCell t (.int .i64 n))):=Lib.hid ⟨rfl,World.cell?_setCell_same _ _ _ (u:=old) (by rw[World.cell?_alloc_lt _ _ t (by simp;omega),World.cell?_alloc_lt _ _ t htl];exact ht),(((Below.refl _ _).alloc (by omega) _).alloc (by simp;omega) _).setCell (Nat.le_refl _) _⟩
 clear ha ht hf
 go_enter Tryz.func60,Tryz.ntmps60
 go_wp2
 refine wp_loop_rounds 1 ?_
 rw[rounds_succ]
 go_wp2
 go_ret
 exact HF.out
theorem asN_of (d:TypeId) (v:Value) (t:Addr) (old:Value) (w:World) (r:Bool) (R:World→World→Prop) (hg:w.cell? ⟨0,0,none⟩=some (.iface 137 (.agg #[.pointer (some ⟨7,26,none⟩)]))) (ht:w.cell? t=some old) (hf:w.frozen? t=false)
  (has: ∀W a,W.cell? a=some (.pointer (some t))→W.cell? t=some old→W.frozen? t=false→Below w.heap.size w W→Calls Tryz.prog 60 #[.iface d v,.iface 58 (.pointer (some t)),.agg #[.pointer (some ⟨7,58,none⟩),.pointer (some a),.int .u64 150],.iface 137 (.agg #[.pointer (some ⟨7,54,none⟩)])] W fun ev w'=>ev= .returned (.bool r)∧R W w'):
  Calls Tryz.prog 27 #[.iface d v,.iface 58 (.pointer (some t))] w fun ev w'=>ev= .returned (.bool r)∧ ∃W,Below w.heap.size w W∧R W w':=by
 have h55:= @run_callFunc_extern Tryz.prog 57 _ (fun args=>ReflectliteValue.unpack (args.getD 0 (.tuple #[]))) Tryz.func57 (by kernel_rfl) (by kernel_rfl) (by kernel_rfl) (by kernel_rfl)
 have h56:= @run_callFunc_extern Tryz.prog 58 _ (ReflectliteValue.methodAny (ReflectliteValue.valueError "reflectlite.Value.Type" 0) (fun t _ _ _=>ReflectliteType.toType t)) Tryz.func58 (by kernel_rfl) (by kernel_rfl) (by kernel_rfl) (by kernel_rfl)
 have h57:= @run_callFunc_extern Tryz.prog 59 _ (ReflectliteValue.method (ReflectliteValue.valueError "reflectlite.Value.IsNil" 0) ReflectliteValue.isNil) Tryz.func59 (by kernel_rfl) (by kernel_rfl) (by kernel_rfl) (by kernel_rfl)
 have h80:= @run_callFunc_extern Tryz.prog 244 _ (ReflectliteType.abiMethod fun t=>do pure (.int .u8 (←Rtype.kind t))) Tryz.func244 (by kernel_rfl) (by kernel_rfl) (by kernel_rfl) (by kernel_rfl)
 have h93:= @run_callFunc_extern Tryz.prog 257 _ (ReflectliteType.method ReflectliteType.elem) Tryz.func257 (by kernel_rfl) (by kernel_rfl) (by kernel_rfl) (by kernel_rfl)
 have h94:= @run_callFunc_extern Tryz.prog 258 _ (ReflectliteType.relation "Implements" ReflectliteType.implements_) Tryz.func258 (by kernel_rfl) (by kernel_rfl) (by kernel_rfl) (by kernel_rfl)
 have f6:=valNT
 have f7:=typeNT
 have mK:=zlt
 have mE:=zlu
 have mI:=zfd
 have k27:=kindNT
 have k25:=kindNE
 have e27:=elemNT
 have i25:=implNE
 have hlt:=zaa hg
 have htl:=zaa ht
 have n8:=isNilNT ⟨w.heap.size,0,none⟩ t ((w.alloc (.cells #[.pointer (some t)] 58)).alloc (.cells #[.pointer (some ⟨7,58,none⟩),.pointer (some ⟨w.heap.size,0,none⟩),.int .u64 150] 88)) (by simp)
 have hg2:((w.alloc (.cells #[.pointer (some t)] 58)).alloc (.cells #[.pointer (some ⟨7,58,none⟩),.pointer (some ⟨w.heap.size,0,none⟩),.int .u64 150] 88)).cell? ⟨0,0,none⟩=some (.iface 137 (.agg #[.pointer (some ⟨7,26,none⟩)])):=by
  rw[World.cell?_alloc_lt _ _ ⟨0,0,none⟩ (by rw[World.size_alloc];exact Nat.lt_succ_of_lt hlt),World.cell?_alloc_lt _ _ ⟨0,0,none⟩ hlt];exact hg
 have hb2:Below w.heap.size w ((w.alloc (.cells #[.pointer (some t)] 58)).alloc (.cells #[.pointer (some ⟨7,58,none⟩),.pointer (some ⟨w.heap.size,0,none⟩),.int .u64 150] 88)):=((Below.refl _ _).alloc (Nat.le_refl _) _).alloc (by simp) _
 have HA:=Lib.hid (has ((w.alloc (.cells #[.pointer (some t)] 58)).alloc (.cells #[.pointer (some ⟨7,58,none⟩),.pointer (some ⟨w.heap.size,0,none⟩),.int .u64 150] 88)) ⟨w.heap.size,0,none⟩ (by rw[World.cell?_alloc_lt _ _ ⟨w.heap.size,0,none⟩ (by simp)];simp)
  (by rw[World.cell?_alloc_lt _ _ t (by simp;omega),World.cell?_alloc_lt _ _ t htl];exact ht)
  (by rw[World.frozen?_alloc_old _ _ t (by simp;omega),World.frozen?_alloc_old _ _ t (Nat.ne_of_lt htl)];exact hf) hb2)
 have HB:=Lib.hid hb2
 clear has hg ht hf hb2
 go_enter Tryz.func27,Tryz.ntmps27
 go_wp2_with(go_at_call 60;refine HA.out.mono ?_;rintro ev w' ⟨rfl,hq⟩;have HQ:=Lib.hid hq;clear hq)
 go_ret
 exact⟨rfl,_,HB.out,HQ.out⟩
theorem asA_of (d:TypeId) (v:Value) (t:Addr) (old:Value) (w:World) (r:Bool) (R:World→World→Prop) (hg:w.cell? ⟨0,0,none⟩=some (.iface 137 (.agg #[.pointer (some ⟨7,26,none⟩)]))) (ht:w.cell? t=some old) (hf:w.frozen? t=false)
  (has: ∀W a,W.cell? a=some (.pointer (some t))→W.cell? t=some old→W.frozen? t=false→Below w.heap.size w W→Calls Tryz.prog 60 #[.iface d v,.iface 261 (.pointer (some t)),.agg #[.pointer (some ⟨7,261,none⟩),.pointer (some a),.int .u64 150],.iface 137 (.agg #[.pointer (some ⟨7,188,none⟩)])] W fun ev w'=>ev= .returned (.bool r)∧R W w'):
  Calls Tryz.prog 27 #[.iface d v,.iface 261 (.pointer (some t))] w fun ev w'=>ev= .returned (.bool r)∧ ∃W,Below w.heap.size w W∧R W w':=by
 have h55:= @run_callFunc_extern Tryz.prog 57 _ (fun args=>ReflectliteValue.unpack (args.getD 0 (.tuple #[]))) Tryz.func57 (by kernel_rfl) (by kernel_rfl) (by kernel_rfl) (by kernel_rfl)
 have h56:= @run_callFunc_extern Tryz.prog 58 _ (ReflectliteValue.methodAny (ReflectliteValue.valueError "reflectlite.Value.Type" 0) (fun t _ _ _=>ReflectliteType.toType t)) Tryz.func58 (by kernel_rfl) (by kernel_rfl) (by kernel_rfl) (by kernel_rfl)
 have h57:= @run_callFunc_extern Tryz.prog 59 _ (ReflectliteValue.method (ReflectliteValue.valueError "reflectlite.Value.IsNil" 0) ReflectliteValue.isNil) Tryz.func59 (by kernel_rfl) (by kernel_rfl) (by kernel_rfl) (by kernel_rfl)
 have h80:= @run_callFunc_extern Tryz.prog 244 _ (ReflectliteType.abiMethod fun t=>do pure (.int .u8 (←Rtype.kind t))) Tryz.func244 (by kernel_rfl) (by kernel_rfl) (by kernel_rfl) (by kernel_rfl)
 have h93:= @run_callFunc_extern Tryz.prog 257 _ (ReflectliteType.method ReflectliteType.elem) Tryz.func257 (by kernel_rfl) (by kernel_rfl) (by kernel_rfl) (by kernel_rfl)
 have h94:= @run_callFunc_extern Tryz.prog 258 _ (ReflectliteType.relation "Implements" ReflectliteType.implements_) Tryz.func258 (by kernel_rfl) (by kernel_rfl) (by kernel_rfl) (by kernel_rfl)
 have f6:=valAT
 have f7:=typeAT
 have mK:=zlt
 have mE:=zlu
 have mI:=zfd
 have k27:=kindAT
 have k25:=kindAE
 have e27:=elemAT
 have i25:=implAE
 have hlt:=zaa hg
 have htl:=zaa ht
 have n8:=isNilAT ⟨w.heap.size,0,none⟩ t ((w.alloc (.cells #[.pointer (some t)] 261)).alloc (.cells #[.pointer (some ⟨7,261,none⟩),.pointer (some ⟨w.heap.size,0,none⟩),.int .u64 150] 88)) (by simp)
 have hg2:((w.alloc (.cells #[.pointer (some t)] 261)).alloc (.cells #[.pointer (some ⟨7,261,none⟩),.pointer (some ⟨w.heap.size,0,none⟩),.int .u64 150] 88)).cell? ⟨0,0,none⟩=some (.iface 137 (.agg #[.pointer (some ⟨7,26,none⟩)])):=by
  rw[World.cell?_alloc_lt _ _ ⟨0,0,none⟩ (by rw[World.size_alloc];exact Nat.lt_succ_of_lt hlt),World.cell?_alloc_lt _ _ ⟨0,0,none⟩ hlt];exact hg
 have hb2:Below w.heap.size w ((w.alloc (.cells #[.pointer (some t)] 261)).alloc (.cells #[.pointer (some ⟨7,261,none⟩),.pointer (some ⟨w.heap.size,0,none⟩),.int .u64 150] 88)):=((Below.refl _ _).alloc (Nat.le_refl _) _).alloc (by simp) _
 have HA:=Lib.hid (has ((w.alloc (.cells #[.pointer (some t)] 261)).alloc (.cells #[.pointer (some ⟨7,261,none⟩),.pointer (some ⟨w.heap.size,0,none⟩),.int .u64 150] 88)) ⟨w.heap.size,0,none⟩ (by rw[World.cell?_alloc_lt _ _ ⟨w.heap.size,0,none⟩ (by simp)];simp)
  (by rw[World.cell?_alloc_lt _ _ t (by simp;omega),World.cell?_alloc_lt _ _ t htl];exact ht)
  (by rw[World.frozen?_alloc_old _ _ t (by simp;omega),World.frozen?_alloc_old _ _ t (Nat.ne_of_lt htl)];exact hf) hb2)
 have HB:=Lib.hid hb2
 clear has hg ht hf hb2
 go_enter Tryz.func27,Tryz.ntmps27
 go_wp2_with(go_at_call 60;refine HA.out.mono ?_;rintro ev w' ⟨rfl,hq⟩;have HQ:=Lib.hid hq;clear hq)
 go_ret
 exact⟨rfl,_,HB.out,HQ.out⟩
abbrev ErrTab (w:World):Prop:=w.cell? ⟨0,0,none⟩=some (.iface 137 (.agg #[.pointer (some ⟨7,26,none⟩)]))
theorem ErrTab.below {w w':World} (h:ErrTab w) (hb:Below w.heap.size w w'):ErrTab w':=(hb.cell (p:=⟨0,0,none⟩) (zaa h)).trans h
theorem num_nil (w:World):Calls Tryz.prog 12 #[.nilIface] w fun e w'=>e= .returned (.int .i64 0)∧w=w':=by
 go_enter Tryz.func12,Tryz.ntmps12
 go_wp2
 go_ret
 exact⟨rfl,rfl⟩
theorem num_of (d:TypeId) (v:Value) (n:Int) (w:World) (hg:ErrTab w)
  (has: ∀t a tg old W,W.cell? a=some (.pointer (some t))→W.cell? t=some old→W.frozen? t=false→Below w.heap.size w W→Calls Tryz.prog 60 #[.iface d v,tg,.agg #[.pointer (some ⟨7,58,none⟩),.pointer (some a),.int .u64 150],.iface 137 (.agg #[.pointer (some ⟨7,54,none⟩)])] W (Hit t (.int .i64 n) W)):
  Calls Tryz.prog 12 #[.iface d v] w fun e w'=>e= .returned (.int .i64 n)∧Below w.heap.size w w':=by
 have hal:=asN_of d v ⟨w.heap.size,0,none⟩ (.int .i64 0) (w.alloc (.cells #[.int .i64 0] 54)) true (fun W w'=>w'.cell? ⟨w.heap.size,0,none⟩=some (.int .i64 n)∧Below w.heap.size W w') (hg.below (zad _ _)) (by simp) (by simp) (fun W a h1 h2 h3 h4=>(has _ a _ _ W h1 h2 h3 ((zad _ _).trans (h4.mono (by simp)))).mono fun e w' h=>⟨h.1,h.2⟩)
 have HA:=Lib.hid hal
 clear hal has
 go_enter Tryz.func12,Tryz.ntmps12
 go_wp2_with(go_at_call 27;refine HA.out.mono ?_;rintro ev w' ⟨rfl,W,hW,hcell,hb⟩;have HB:=Lib.hid ((zad w _).trans ((hW.mono (by simp)).trans hb));clear hW hb)
 go_ret
 exact⟨rfl,HB.out⟩
theorem num_errno (n:Int) (w:World) (hg:ErrTab w):Calls Tryz.prog 12 #[.iface 54 (.int .i64 n)] w fun e w'=>e= .returned (.int .i64 n)∧Below w.heap.size w w':=
 num_of _ _ n w hg fun t a tg old W h1 h2 h3 _=>asHitN n t a tg old W h1 h2 h3
theorem typeOfR (v:Value) (w:World):(ReflectliteType.typeOf #[.iface 97 v]).run Tryz.prog w= .ok (.iface 137 (.agg #[.pointer (some ⟨7,97,none⟩)])) w:=by kernel_rfl
theorem assignRN (w:World):(ReflectliteType.relation "AssignableTo" ReflectliteType.assignableTo #[.agg #[.pointer (some ⟨7,97,none⟩)],.iface 137 (.agg #[.pointer (some ⟨7,54,none⟩)])]).run Tryz.prog w= .ok (.bool false) w:=by kernel_rfl
theorem noAsR (v:Value) (xT:TypeId) (w:World):(Instr.typeAssert (.iface 97 v) xT 142 true).run Tryz.prog w= .ok (.tuple #[.nilIface,.bool false]) w:=run_typeAssert_lacksB Tryz.underlying142 (by kernel_rfl) (by kernel_rfl) v xT w
theorem hasUnwrapR (v:Value) (xT:TypeId) (w:World):(Instr.typeAssert (.iface 97 v) xT 145 true).run Tryz.prog w= .ok (.tuple #[.iface 97 v,.bool true]) w:=run_typeAssert_hasB Tryz.underlying145 (by kernel_rfl) v xT w
theorem znV (p:Addr) (w:World):(Go.method 404 97 (.pointer (some p)) "Unwrap").run Tryz.prog w= .ok (252,.pointer (some p)) w:=by kernel_rfl
theorem unwrapR_any (b o:Nat) (v:Value) (w:World) (h:w.cell? ⟨b,o,none⟩=some v):
  Calls Tryz.prog 252 #[.pointer (some ⟨b,o,none⟩)] w fun e w'=>e= .returned v∧w=w':=by
 go_enter Tryz.func252,Tryz.ntmps252
 go_wp2
 go_ret
 exact⟨rfl,rfl⟩
theorem asRefN (n:Int) (t a:Addr) (tg old:Value) (w:World) (b o:Nat) (he:w.cell? ⟨b,o,none⟩=some (.iface 54 (.int .i64 n))) (ha:w.cell? a=some (.pointer (some t))) (ht:w.cell? t=some old) (hf:w.frozen? t=false):
  Calls Tryz.prog 60 #[.iface 97 (.pointer (some ⟨b,o,none⟩)),tg,.agg #[.pointer (some ⟨7,58,none⟩),.pointer (some a),.int .u64 150],.iface 137 (.agg #[.pointer (some ⟨7,54,none⟩)])] w (Hit t (.int .i64 n) w):=by
 have h55:= @run_callFunc_extern Tryz.prog 57 _ (fun args=>ReflectliteValue.unpack (args.getD 0 (.tuple #[]))) Tryz.func57 (by kernel_rfl) (by kernel_rfl) (by kernel_rfl) (by kernel_rfl)
 have h62:= @run_callFunc_extern Tryz.prog 88 _ ReflectliteType.typeOf Tryz.func88 (by kernel_rfl) (by kernel_rfl) (by kernel_rfl) (by kernel_rfl)
 have h91:= @run_callFunc_extern Tryz.prog 255 _ (ReflectliteType.relation "AssignableTo" ReflectliteType.assignableTo) Tryz.func255 (by kernel_rfl) (by kernel_rfl) (by kernel_rfl) (by kernel_rfl)
 have h63:= @run_callFunc_extern Tryz.prog 89 _ (ReflectliteValue.method (ReflectliteValue.valueError "reflectlite.Value.Elem" 0) ReflectliteValue.elem) Tryz.func89 (by kernel_rfl) (by kernel_rfl) (by kernel_rfl) (by kernel_rfl)
 have h64:= @run_callFunc_extern Tryz.prog 90 _ ReflectliteValue.set Tryz.func90 (by kernel_rfl) (by kernel_rfl) (by kernel_rfl) (by kernel_rfl)
 have tO:=typeOfN
 have mA:=zcy
 have aN:=assignNN
 have vN:=valueOfN
 have tA:=typeOfR
 have aAN:=assignRN
 have nA:=noAsR
 have hU:=hasUnwrapR
 have mU:=znV
 have hu:=unwrapR_any b o _ (w.alloc (.cells #[.pointer (some ⟨7,58,none⟩),.pointer (some a),.int .u64 150] 88)) ((World.cell?_alloc_lt _ _ ⟨b,o,none⟩ (zaa he)).trans he)
 have HU:=Lib.hid hu
 have hal:=zaa ha
 have htl:=zaa ht
 have el:=elemVNT a t (w.alloc (.cells #[.pointer (some ⟨7,58,none⟩),.pointer (some a),.int .u64 150] 88)) (by rw[World.cell?_alloc_lt _ _ a hal];exact ha)
 have st:=setNE t ⟨w.heap.size+1,0,none⟩ n old ((w.alloc (.cells #[.pointer (some ⟨7,58,none⟩),.pointer (some a),.int .u64 150] 88)).alloc (.cells #[(.int .i64 n)] 54))
  (by rw[World.cell?_alloc_at _ _ _ _ (by simp)];rfl)
  (by rw[World.cell?_alloc_lt _ _ t (by simp;omega),World.cell?_alloc_lt _ _ t htl];exact ht)
  (by rw[World.frozen?_alloc_old _ _ t (by simp;omega),World.frozen?_alloc_old _ _ t (Nat.ne_of_lt htl)];exact hf)
 have HF:Hid (Hit t (.int .i64 n) w (.returned (.bool true)) (((w.alloc (.cells #[.pointer (some ⟨7,58,none⟩),.pointer (some a),.int .u64 150] 88)).alloc (.cells #[(.int .i64 n)] 54)).setCell t (.int .i64 n))):=Lib.hid ⟨rfl,World.cell?_setCell_same _ _ _ (u:=old) (by rw[World.cell?_alloc_lt _ _ t (by simp;omega),World.cell?_alloc_lt _ _ t htl];exact ht),(((Below.refl _ _).alloc (by omega) _).alloc (by simp;omega) _).setCell (Nat.le_refl _) _⟩
 clear ha ht hf he hu
 go_enter Tryz.func60,Tryz.ntmps60
 go_wp2
 refine wp_loop_rounds 2 ?_
 rw[rounds_succ]
 go_wp2_with(go_at_call 252;refine HU.out.mono ?_;rintro e w' ⟨rfl,rfl⟩)
 rw[rounds_succ]
 go_wp2
 go_ret
 exact HF.out
theorem num_ref (n:Int) (b o:Nat) (w:World) (hg:ErrTab w) (he:w.cell? ⟨b,o,none⟩=some (.iface 54 (.int .i64 n))):Calls Tryz.prog 12 #[.iface 97 (.pointer (some ⟨b,o,none⟩))] w fun e w'=>e= .returned (.int .i64 n)∧Below w.heap.size w w':=
 num_of _ _ n w hg fun t a tg old W h1 h2 h3 h4=>asRefN n t a tg old W b o ((h4.cell (p:=⟨b,o,none⟩) (zaa he)).trans he) h1 h2 h3
def WErr (n:Int) (v:Value) (w:World):Prop:=
 (n=0∧v= .nilIface)∨(n≠0∧v= .iface 54 (.int .i64 n))∨(n≠0∧ ∃b,v= .iface 97 (.pointer (some ⟨b,0,none⟩))∧w.cell? ⟨b,0,none⟩=some (.iface 54 (.int .i64 n)))
theorem WErr.nil {v:Value} {w:World} (h:WErr 0 v w):v= .nilIface:=by
 rcases h with⟨_,h⟩|⟨h,_⟩|⟨h,_⟩
 ·exact h
 ·exact absurd rfl h
 ·exact absurd rfl h
theorem WErr.iface {n:Int} {v:Value} {w:World} (h:WErr n v w) (hn:n≠0): ∃d x,v= .iface d x:=by
 rcases h with⟨h,_⟩|⟨_,h⟩|⟨_,b,h,_⟩
 ·exact absurd h hn
 ·exact⟨_,_,h⟩
 ·exact⟨_,_,h⟩
theorem numW {n:Int} {v:Value} {W:World} (h:WErr n v W) (hg:ErrTab W):Calls Tryz.prog 12 #[v] W fun e w'=>e= .returned (.int .i64 n)∧Below W.heap.size W w':=by
 rcases h with⟨rfl,rfl⟩|⟨_,rfl⟩|⟨_,b,rfl,h0⟩
 ·refine(num_nil W).mono ?_
  rintro e w' ⟨rfl,rfl⟩
  exact⟨rfl,Below.refl _ _⟩
 ·exact num_errno n W hg
 ·exact num_ref n b 0 W hg h0
end Go.Proofs.YtceddodfddlncaaGreatDoor
namespace Go.Proofs.YtceddodfddlncaaGreatDoor
open Go Go.RowKit
structure ErrAsk (g:Nat) (caps:Array Value) (I J:World→Prop) (E:Value→World→Prop):Prop where
 enters: ∀args w,(callFunc g args).run Tryz.prog w= .ok (.enter g args) w
 call: ∀w,I w→Calls Tryz.prog g caps w fun e w'=>(e= .returned .nilIface∧J w')∨ ∃d x,e= .returned (.iface d x)∧E (.iface d x) w'
def FirstTells (n:Nat) (I:Nat→World→Prop) (E:Value→World→Prop) (e:Ending) (w':World):Prop:=(e= .returned .nilIface∧I n w')∨ ∃d x,e= .returned (.iface d x)∧E (.iface d x) w'
theorem zgq (b c n:Nat) (fs:List (Nat×Array Value)) (I:Nat→World→Prop) (E:Value→World→Prop) (w:World) (hn:fs.length=n) (hn9:n≤1000)
  (hrow: ∀i f w',fs[i]? =some f→I i w'→w'.cell? ⟨b,i,none⟩=some (.func (.func f.1) #[] f.2))
  (hstep: ∀i f,fs[i]? =some f→ErrAsk f.1 f.2 (I i) (I (i+1)) E) (h0:I 0 w):
  Calls Tryz.prog 19 #[.slice (some ⟨b,0,none⟩) n c] w (FirstTells n I E):=by
 have HROW:=Lib.hid hrow
 have HSTEP:=Lib.hid hstep
 have HN:=Lib.hid hn
 have H0:=Lib.hid h0
 clear hrow hstep hn h0
 go_enter Tryz.func19,Tryz.ntmps19
 go_wp2
 go_loopw[8] (fun i wr=> ∃k:Nat,k≤n∧i= .int .i64 (k:Int)∧I k wr) (fun i _=>n-(intOf i).toNat)
 case atStart=>exact⟨0,Nat.zero_le _,rfl,H0.out⟩
 case round=>
  obtain⟨k,hk,rfl,hI⟩:=hrel
  have HI:=Lib.hid hI
  clear hI
  by_cases hlt:k<n
  ·have hkl:k<fs.length:=by rw[HN.out];exact hlt
   obtain⟨f,hf⟩: ∃f,fs[k]? =some f:=⟨_,List.getElem?_eq_getElem hkl⟩
   have hc:=HROW.out k f wr hf HI.out
   have hst:=HSTEP.out k f hf
   have HC:=Lib.hid (hst.call wr HI.out)
   have eg:=hst.enters
   obtain⟨g,caps⟩:=f
   have hi0:(0:Int)≤(k:Int):=by omega
   have hi1:(k:Int)<(n:Int):=by omega
   clear hst hf hkl
   go_wp2_with fail
   refine HC.out.mono ?_
   rintro e w1 (⟨rfl,hJ⟩|⟨d,x,rfl,hE⟩)
   ·have HJ:=Lib.hid hJ
    clear hJ
    go_wp2
    go_roundw
    case rel=>exact⟨k+1,by omega,by go_num,HJ.out⟩
    case measure=>simp[intOf];omega
   ·have HE:=Lib.hid hE
    clear hE
    go_wp2
    go_ret
    exact .inr ⟨_,_,rfl,HE.out⟩
  ·obtain rfl:k=n:=by omega
   have hi1: ¬(k:Int)<(k:Int):=by omega
   go_wp2
   go_ret
   exact .inl ⟨rfl,HI.out⟩
theorem zcQ {n:Int} {b:Nat} {w:World} (hn:n≠0) (h:w.cell? ⟨b,0,none⟩=some (.iface 54 (.int .i64 n))):WErr n (.iface 97 (.pointer (some ⟨b,0,none⟩))) w:= .inr (.inr ⟨hn,b,rfl,h⟩)
theorem unlessC_any (p5 p3 p4:Nat) (no:Int) (found:ByteArray) (q:Nat) (first caps:Array Value) (r:Bool) (R:World→Prop) (w:World) (hno:no≠0)
  (h5:w.cell? ⟨p5,0,none⟩=some (.func (.func q) first caps)) (h3:w.cell? ⟨p3,0,none⟩=some (.int .i64 no)) (h4:w.cell? ⟨p4,0,none⟩=some (.string found))
  (hent: ∀args w,(callFunc q args).run Tryz.prog w= .ok (.enter q args) w) (hR: ∀W W',R W→Below W.heap.size W W'→R W')
  (hq:Calls Tryz.prog q (first++caps) w fun e w'=>e= .returned (.bool r)∧R w'∧w'.cell? ⟨p3,0,none⟩=some (.int .i64 no)∧w'.cell? ⟨p4,0,none⟩=some (.string found)):
  Calls Tryz.prog 61 #[.pointer (some ⟨p5,0,none⟩),.pointer (some ⟨p3,0,none⟩),.pointer (some ⟨p4,0,none⟩)] w fun e w'=>(r=true∧e= .returned .nilIface∧R w')∨(r=false∧ ∃b,e= .returned (.iface 97 (.pointer (some ⟨b,0,none⟩)))∧w'.cell? ⟨b,0,none⟩=some (.iface 54 (.int .i64 no))∧R w'):=by
 have HQ:=Lib.hid hq
 have HR:=Lib.hid hR
 clear hq hR
 go_enter Tryz.func61,Tryz.ntmps61
 go_wp2_with fail
 refine HQ.out.mono ?_
 rintro e w1 ⟨rfl,hR1,k3,k4⟩
 have HR1:=Lib.hid hR1
 clear hR1
 cases r with
 |true=>
  go_wp2
  go_ret
  exact⟨rfl,HR1.out⟩
 |false=>
  go_wp2
  go_ret
  exact⟨_,rfl,by simp,HR.out _ _ HR1.out (zad _ _)⟩
end Go.Proofs.YtceddodfddlncaaGreatDoor
namespace Go.Proofs.YtceddodfddlncaaGreatDoor
open Go Go.RowKit Go.Extern.Stop Go.Stop Go.Extern
def HitG (t:Addr) (tb:Nat) (v:Value) (w:World) (e:Ending) (w':World):Prop:=e= .returned (.bool true)∧w'.cell? t=some v∧w.grownBy w' (some tb)
theorem asHitG (p:Addr) (tb:Nat) (t a:Addr) (tg old:Value) (w:World) (ha:w.cell? a=some (.pointer (some t))) (ht:w.cell? t=some old) (hf:w.frozen? t=false) (htb:t=⟨tb,0,none⟩):
  Calls Tryz.prog 60 #[.iface 188 (.pointer (some p)),tg,.agg #[.pointer (some ⟨7,261,none⟩),.pointer (some a),.int .u64 150],.iface 137 (.agg #[.pointer (some ⟨7,188,none⟩)])] w (HitG t tb (.pointer (some p)) w):=by
 have h55:= @run_callFunc_extern Tryz.prog 57 _ (fun args=>ReflectliteValue.unpack (args.getD 0 (.tuple #[]))) Tryz.func57 (by kernel_rfl) (by kernel_rfl) (by kernel_rfl) (by kernel_rfl)
 have h62:= @run_callFunc_extern Tryz.prog 88 _ ReflectliteType.typeOf Tryz.func88 (by kernel_rfl) (by kernel_rfl) (by kernel_rfl) (by kernel_rfl)
 have h91:= @run_callFunc_extern Tryz.prog 255 _ (ReflectliteType.relation "AssignableTo" ReflectliteType.assignableTo) Tryz.func255 (by kernel_rfl) (by kernel_rfl) (by kernel_rfl) (by kernel_rfl)
 have h63:= @run_callFunc_extern Tryz.prog 89 _ (ReflectliteValue.method (ReflectliteValue.valueError "reflectlite.Value.Elem" 0) ReflectliteValue.elem) Tryz.func89 (by kernel_rfl) (by kernel_rfl) (by kernel_rfl) (by kernel_rfl)
 have h64:= @run_callFunc_extern Tryz.prog 90 _ ReflectliteValue.set Tryz.func90 (by kernel_rfl) (by kernel_rfl) (by kernel_rfl) (by kernel_rfl)
 have tO:=typeOfA
 have mA:=zcy
 have aN:=assignAA
 have vN:=valueOfA
 have hal:=zaa ha
 have htl:=zaa ht
 have el:=elemVAT a t (w.alloc (.cells #[.pointer (some ⟨7,261,none⟩),.pointer (some a),.int .u64 150] 88)) (by rw[World.cell?_alloc_lt _ _ a hal];exact ha)
 have st:=setAE t ⟨w.heap.size+1,0,none⟩ p old ((w.alloc (.cells #[.pointer (some ⟨7,261,none⟩),.pointer (some a),.int .u64 150] 88)).alloc (.cells #[(.pointer (some p))] 188))
  (by rw[World.cell?_alloc_at _ _ _ _ (by simp)];rfl)
  (by rw[World.cell?_alloc_lt _ _ t (by simp;omega),World.cell?_alloc_lt _ _ t htl];exact ht)
  (by rw[World.frozen?_alloc_old _ _ t (by simp;omega),World.frozen?_alloc_old _ _ t (Nat.ne_of_lt htl)];exact hf)
 have HF:Hid (HitG t tb (.pointer (some p)) w (.returned (.bool true)) (((w.alloc (.cells #[.pointer (some ⟨7,261,none⟩),.pointer (some a),.int .u64 150] 88)).alloc (.cells #[(.pointer (some p))] 188)).setCell t (.pointer (some p)))):=Lib.hid ⟨rfl,World.cell?_setCell_same _ _ _ (u:=old) (by rw[World.cell?_alloc_lt _ _ t (by simp;omega),World.cell?_alloc_lt _ _ t htl];exact ht),((World.grownBy_alloc w _ (some tb)).trans (World.grownBy_alloc _ _ (some tb))).trans (by rw[htb];exact zaV _ tb 0 _)⟩
 clear ha ht hf htb
 go_enter Tryz.func60,Tryz.ntmps60
 go_wp2
 refine wp_loop_rounds 1 ?_
 rw[rounds_succ]
 go_wp2
 go_ret
 exact HF.out
end Go.Proofs.YtceddodfddlncaaGreatDoor
