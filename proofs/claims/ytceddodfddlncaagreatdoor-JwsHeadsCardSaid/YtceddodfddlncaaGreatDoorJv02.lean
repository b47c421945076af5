
import Derived.LaidEql
import Derived.Stop.Asserts
import Derived.RowKitTokens
import Derived.Laws.EntriesVeiled
import Derived.Test.YtceddodfddlncaaGreatDoorJv01
set_option maxRecDepth 100000
set_option maxHeartbeats 16000000
set_option linter.all false
namespace Go.Proofs.YtceddodfddlncaaGreatDoor
open Go Go.RowKit Go.Extern.Stop Go.Stop Go.Extern Tryz
def ei:=@World.cell?_alloc_lt
def eB:=@run_callFunc_extern
def eY:=@List.getElem_cons_zero
def fj:=@List.getElem_toArray
def fC:=@List.getElem_cons_succ
def fH:=@World.frozen?_alloc_old
def jz:=@World.cell?_alloc_at
def jI:=@wp_loop_rounds
def ke:=@rounds_succ
def kg:=@func61
def kB:=@World.cell?_setCell_same
def lP:=@Nat.ne_of_lt
def ma:=@func57
theorem IA (t:Addr) (w:World):(ReflectliteValue.unpack (.iface 58 (.pointer (some t)))).run prog w= .ok (.agg #[.pointer (some ⟨7,58,none⟩),.pointer (some ⟨w.heap.size,0,none⟩),.int .u64 150]) (w.alloc (.cells #[.pointer (some t)] 58)):=by kernel_rfl
theorem Gb (a:Addr) (w:World):(ReflectliteValue.methodAny (ReflectliteValue.valueError "reflectlite.Value.Type" 0) (fun t _ _ _=>ReflectliteType.toType t) #[.agg #[.pointer (some ⟨7,58,none⟩),.pointer (some a),.int .u64 150]]).run prog w= .ok (.iface 137 (.agg #[.pointer (some ⟨7,58,none⟩)])) w:=by kernel_rfl
theorem Gz (w:World):((ReflectliteType.abiMethod fun t=>(fun a:Nat=>Value.int IntKind.u8 (a:Int))<$>Rtype.kind t) #[.pointer (some ⟨7,58,none⟩)]).run prog w= .ok (.int .u8 22) w:=by kernel_rfl
theorem GA (w:World):((ReflectliteType.abiMethod fun t=>(fun a:Nat=>Value.int IntKind.u8 (a:Int))<$>Rtype.kind t) #[.pointer (some ⟨7,54,none⟩)]).run prog w= .ok (.int .u8 2) w:=by kernel_rfl
theorem y_ (a:Addr) (w:World):(ReflectliteValue.parts (.agg #[.pointer (some ⟨7,58,none⟩),.pointer (some a),.int .u64 150])).run prog w= .ok (some (58,a,150)) w:=by kernel_rfl
theorem GM (w:World):(ReflectliteType.method ReflectliteType.elem #[.agg #[.pointer (some ⟨7,58,none⟩)]]).run prog w= .ok (.iface 137 (.agg #[.pointer (some ⟨7,54,none⟩)])) w:=by kernel_rfl
theorem GH (w:World):(ReflectliteType.relation "Implements" ReflectliteType.implements_ #[.agg #[.pointer (some ⟨7,54,none⟩)],.iface 137 (.agg #[.pointer (some ⟨7,26,none⟩)])]).run prog w= .ok (.bool true) w:=by kernel_rfl
theorem Dm (w:World):(Rtype.elem? 58).run prog w= .ok (some 54) w:=by kernel_rfl
theorem LM (p:Addr) (w:World):(ReflectliteValue.mk 54 p ReflectliteValue.flagAddr).run prog w= .ok (.agg #[.pointer (some ⟨7,54,none⟩),.pointer (some p),.int .u64 386]) w:=by kernel_rfl
theorem Cz (a:Addr) (w:World):(ReflectliteValue.parts (.agg #[.pointer (some ⟨7,54,none⟩),.pointer (some a),.int .u64 386])).run prog w= .ok (some (54,a,386)) w:=by kernel_rfl
theorem EG (a:Addr) (w:World):(ReflectliteValue.parts (.agg #[.pointer (some ⟨7,54,none⟩),.pointer (some a),.int .u64 130])).run prog w= .ok (some (54,a,130)) w:=by kernel_rfl
theorem Dp (w:World):(Rtype.directlyAssignable 54 54).run prog w= .ok true w:=by kernel_rfl
theorem EW (a p:Addr) (W:World) (q:W.cell? a=some (.pointer (some p))):
  (ReflectliteValue.method (ReflectliteValue.valueError "reflectlite.Value.IsNil" 0) ReflectliteValue.isNil #[.agg #[.pointer (some ⟨7,58,none⟩),.pointer (some a),.int .u64 150]]).run prog W= .ok (.bool false) W:=by
 change Sem.run _ (Bind.bind (ReflectliteValue.parts _) _) _=_
 simp only[Array.getLit,fj,eY,fF,y_,Result.andThen]
 simp[ReflectliteValue.isNil,loadVar,isAgg,underlying,underlying58,q,Result.andThen]
theorem zm (a p:Addr) (W:World) (q:W.cell? a=some (.pointer (some p))):
  (ReflectliteValue.method (ReflectliteValue.valueError "reflectlite.Value.Elem" 0) ReflectliteValue.elem #[.agg #[.pointer (some ⟨7,58,none⟩),.pointer (some a),.int .u64 150]]).run prog W= .ok (.agg #[.pointer (some ⟨7,54,none⟩),.pointer (some p),.int .u64 386]) W:=by
 change Sem.run _ (Bind.bind (ReflectliteValue.parts _) _) _=_
 simp only[Array.getLit,fj,eY,fF,y_,Result.andThen]
 simp[ReflectliteValue.elem,loadVar,isAgg,underlying,underlying58,q,Result.andThen,Dm,LM]
theorem FK (q b:Addr) (n:Int) (old:Value) (W:World) (E:W.cell? b=some (.int .i64 n)) (B:W.cell? q=some old) (D:W.frozen? q=false):
  (ReflectliteValue.set #[.agg #[.pointer (some ⟨7,54,none⟩),.pointer (some q),.int .u64 386],.agg #[.pointer (some ⟨7,54,none⟩),.pointer (some b),.int .u64 130]]).run prog W= .ok (.tuple #[]) (W.setCell q (.int .i64 n)):=by
 change Sem.run _ (Bind.bind (ReflectliteValue.parts _) _) _=_
 simp only[Array.getLit,fj,eY,fC,fF,Cz,EG,Result.andThen]
 simp[ReflectliteValue.flagAddr,loadVar,isAgg,underlying,underlying54,E,Result.andThen,Dp,storeVar,Value.cells,storeCells,Addr.add]
 rw[run_store prog W q _ _ (by rfl)]
 simp[B,D]
theorem IB (t:Addr) (w:World):(ReflectliteValue.unpack (.iface 261 (.pointer (some t)))).run prog w= .ok (.agg #[.pointer (some ⟨7,261,none⟩),.pointer (some ⟨w.heap.size,0,none⟩),.int .u64 150]) (w.alloc (.cells #[.pointer (some t)] 261)):=by kernel_rfl
theorem Gc (a:Addr) (w:World):(ReflectliteValue.methodAny (ReflectliteValue.valueError "reflectlite.Value.Type" 0) (fun t _ _ _=>ReflectliteType.toType t) #[.agg #[.pointer (some ⟨7,261,none⟩),.pointer (some a),.int .u64 150]]).run prog w= .ok (.iface 137 (.agg #[.pointer (some ⟨7,261,none⟩)])) w:=by kernel_rfl
theorem GB (w:World):((ReflectliteType.abiMethod fun t=>(fun a:Nat=>Value.int IntKind.u8 (a:Int))<$>Rtype.kind t) #[.pointer (some ⟨7,261,none⟩)]).run prog w= .ok (.int .u8 22) w:=by kernel_rfl
theorem GC (w:World):((ReflectliteType.abiMethod fun t=>(fun a:Nat=>Value.int IntKind.u8 (a:Int))<$>Rtype.kind t) #[.pointer (some ⟨7,188,none⟩)]).run prog w= .ok (.int .u8 22) w:=by kernel_rfl
theorem zd (a:Addr) (w:World):(ReflectliteValue.parts (.agg #[.pointer (some ⟨7,261,none⟩),.pointer (some a),.int .u64 150])).run prog w= .ok (some (261,a,150)) w:=by kernel_rfl
theorem GN (w:World):(ReflectliteType.method ReflectliteType.elem #[.agg #[.pointer (some ⟨7,261,none⟩)]]).run prog w= .ok (.iface 137 (.agg #[.pointer (some ⟨7,188,none⟩)])) w:=by kernel_rfl
theorem GI (w:World):(ReflectliteType.relation "Implements" ReflectliteType.implements_ #[.agg #[.pointer (some ⟨7,188,none⟩)],.iface 137 (.agg #[.pointer (some ⟨7,26,none⟩)])]).run prog w= .ok (.bool true) w:=by kernel_rfl
theorem Dn (w:World):(Rtype.elem? 261).run prog w= .ok (some 188) w:=by kernel_rfl
theorem LN (p:Addr) (w:World):(ReflectliteValue.mk 188 p ReflectliteValue.flagAddr).run prog w= .ok (.agg #[.pointer (some ⟨7,188,none⟩),.pointer (some p),.int .u64 406]) w:=by kernel_rfl
theorem CA (a:Addr) (w:World):(ReflectliteValue.parts (.agg #[.pointer (some ⟨7,188,none⟩),.pointer (some a),.int .u64 406])).run prog w= .ok (some (188,a,406)) w:=by kernel_rfl
theorem EH (a:Addr) (w:World):(ReflectliteValue.parts (.agg #[.pointer (some ⟨7,188,none⟩),.pointer (some a),.int .u64 150])).run prog w= .ok (some (188,a,150)) w:=by kernel_rfl
theorem Dq (w:World):(Rtype.directlyAssignable 188 188).run prog w= .ok true w:=by kernel_rfl
theorem EX (a p:Addr) (W:World) (q:W.cell? a=some (.pointer (some p))):
  (ReflectliteValue.method (ReflectliteValue.valueError "reflectlite.Value.IsNil" 0) ReflectliteValue.isNil #[.agg #[.pointer (some ⟨7,261,none⟩),.pointer (some a),.int .u64 150]]).run prog W= .ok (.bool false) W:=by
 change Sem.run _ (Bind.bind (ReflectliteValue.parts _) _) _=_
 simp only[Array.getLit,fj,eY,fF,zd,Result.andThen]
 simp[ReflectliteValue.isNil,loadVar,isAgg,underlying,underlying261,q,Result.andThen]
theorem E_ (a p:Addr) (W:World) (q:W.cell? a=some (.pointer (some p))):
  (ReflectliteValue.method (ReflectliteValue.valueError "reflectlite.Value.Elem" 0) ReflectliteValue.elem #[.agg #[.pointer (some ⟨7,261,none⟩),.pointer (some a),.int .u64 150]]).run prog W= .ok (.agg #[.pointer (some ⟨7,188,none⟩),.pointer (some p),.int .u64 406]) W:=by
 change Sem.run _ (Bind.bind (ReflectliteValue.parts _) _) _=_
 simp only[Array.getLit,fj,eY,fF,zd,Result.andThen]
 simp[ReflectliteValue.elem,loadVar,isAgg,underlying,underlying261,q,Result.andThen,Dn,LN]
theorem IF (q b:Addr) (p:Addr) (old:Value) (W:World) (E:W.cell? b=some (.pointer (some p))) (B:W.cell? q=some old) (D:W.frozen? q=false):
  (ReflectliteValue.set #[.agg #[.pointer (some ⟨7,188,none⟩),.pointer (some q),.int .u64 406],.agg #[.pointer (some ⟨7,188,none⟩),.pointer (some b),.int .u64 150]]).run prog W= .ok (.tuple #[]) (W.setCell q (.pointer (some p))):=by
 change Sem.run _ (Bind.bind (ReflectliteValue.parts _) _) _=_
 simp only[Array.getLit,fj,eY,fC,fF,CA,EH,Result.andThen]
 simp[ReflectliteValue.flagAddr,loadVar,isAgg,underlying,underlying188,E,Result.andThen,Dq,storeVar,Value.cells,storeCells,Addr.add]
 rw[run_store prog W q _ _ (by rfl)]
 simp[B,D]
theorem yQ (v:Value) (w:World):(ReflectliteType.typeOf #[.iface 54 v]).run prog w= .ok (.iface 137 (.agg #[.pointer (some ⟨7,54,none⟩)])) w:=by kernel_rfl
theorem tz (n:Int) (w:World):(ReflectliteValue.unpack (.iface 54 (.int .i64 n))).run prog w= .ok (.agg #[.pointer (some ⟨7,54,none⟩),.pointer (some ⟨w.heap.size,0,none⟩),.int .u64 130]) (w.alloc (.cells #[(.int .i64 n)] 54)):=by kernel_rfl
theorem vT (w:World):(ReflectliteType.relation "AssignableTo" ReflectliteType.assignableTo #[.agg #[.pointer (some ⟨7,54,none⟩)],.iface 137 (.agg #[.pointer (some ⟨7,54,none⟩)])]).run prog w= .ok (.bool true) w:=by kernel_rfl
theorem Ej (v:Value) (w:World):(ReflectliteType.typeOf #[.iface 188 v]).run prog w= .ok (.iface 137 (.agg #[.pointer (some ⟨7,188,none⟩)])) w:=by kernel_rfl
theorem BW (p:Addr) (w:World):(ReflectliteValue.unpack (.iface 188 (.pointer (some p)))).run prog w= .ok (.agg #[.pointer (some ⟨7,188,none⟩),.pointer (some ⟨w.heap.size,0,none⟩),.int .u64 150]) (w.alloc (.cells #[(.pointer (some p))] 188)):=by kernel_rfl
theorem DF (w:World):(ReflectliteType.relation "AssignableTo" ReflectliteType.assignableTo #[.agg #[.pointer (some ⟨7,188,none⟩)],.iface 137 (.agg #[.pointer (some ⟨7,188,none⟩)])]).run prog w= .ok (.bool true) w:=by kernel_rfl
theorem L6 (h:Value) (w:World):(Go.method 404 137 (.agg #[h]) "Kind").run prog w= .ok (244,h) w:=by kernel_rfl
theorem L8 (h:Value) (w:World):(Go.method 404 137 (.agg #[h]) "Elem").run prog w= .ok (257,.agg #[h]) w:=by kernel_rfl
theorem No (h:Value) (w:World):(Go.method 404 137 (.agg #[h]) "Implements").run prog w= .ok (258,.agg #[h]) w:=by kernel_rfl
theorem LH (h:Value) (w:World):(Go.method 404 137 (.agg #[h]) "AssignableTo").run prog w= .ok (255,.agg #[h]) w:=by kernel_rfl
def Jj (t:Addr) (v:Value) (w:World) (e:Ending) (w':World):Prop:=e= .returned (.bool true)∧w'.cell? t=some v∧Below t.block w w'
theorem GR (n:Int) (t a:Addr) (F old:Value) (w:World) (D:w.cell? a=some (.pointer (some t))) (q:w.cell? t=some old) (E:w.frozen? t=false):
  Calls prog 60 #[.iface 54 (.int .i64 n),F,.agg #[.pointer (some ⟨7,58,none⟩),.pointer (some a),.int .u64 150],.iface 137 (.agg #[.pointer (some ⟨7,54,none⟩)])] w (Jj t (.int .i64 n) w):=by
 have W:= @eB prog 57 _ (fun args=>ReflectliteValue.unpack (args.getD 0 (.tuple #[]))) ma (by kernel_rfl) (by kernel_rfl) (by kernel_rfl) (by kernel_rfl)
 have V:= @eB prog 88 _ ReflectliteType.typeOf func88 (by kernel_rfl) (by kernel_rfl) (by kernel_rfl) (by kernel_rfl)
 have Q:= @eB prog 255 _ (ReflectliteType.relation "AssignableTo" ReflectliteType.assignableTo) func255 (by kernel_rfl) (by kernel_rfl) (by kernel_rfl) (by kernel_rfl)
 have U:= @eB prog 89 _ (ReflectliteValue.method (ReflectliteValue.valueError "reflectlite.Value.Elem" 0) ReflectliteValue.elem) func89 (by kernel_rfl) (by kernel_rfl) (by kernel_rfl) (by kernel_rfl)
 have R:= @eB prog 90 _ ReflectliteValue.set func90 (by kernel_rfl) (by kernel_rfl) (by kernel_rfl) (by kernel_rfl)
 have M:=yQ
 have O:=LH
 have Y:=vT
 have L:=tz
 have G:=nc D
 have B:=nc q
 have X:=zm a t (w.alloc (.cells #[.pointer (some ⟨7,58,none⟩),.pointer (some a),.int .u64 150] 88)) (by rw[ei _ _ a G];exact D)
 have N:=FK t ⟨w.heap.size+1,0,none⟩ n old ((w.alloc (.cells #[.pointer (some ⟨7,58,none⟩),.pointer (some a),.int .u64 150] 88)).alloc (.cells #[(.int .i64 n)] 54))
  (by rw[jz _ _ _ _ (by simp)];rfl)
  (by rw[ei _ _ t (by simp;omega),ei _ _ t B];exact q)
  (by rw[fH _ _ t (by simp;omega),fH _ _ t (lP B)];exact E)
 have I:Hid (Jj t (.int .i64 n) w (.returned (.bool true)) (((w.alloc (.cells #[.pointer (some ⟨7,58,none⟩),.pointer (some a),.int .u64 150] 88)).alloc (.cells #[(.int .i64 n)] 54)).setCell t (.int .i64 n))):=dM ⟨rfl,kB _ _ _ (u:=old) (by rw[ei _ _ t (by simp;omega),ei _ _ t B];exact q),(((dU _ _).alloc (by omega) _).alloc (by simp;omega) _).setCell (dQ _) _⟩
 clear D q E
 go_enter func60,ntmps60
 go_wp2
 refine jI 1 ?_
 rw[ke]
 go_wp2
 go_ret
 exact I.out
theorem GQ (d:TypeId) (v:Value) (t:Addr) (old:Value) (w:World) (r:Bool) (R:World→World→Prop) (D:w.cell? ⟨0,0,none⟩=some (.iface 137 (.agg #[.pointer (some ⟨7,26,none⟩)]))) (B:w.cell? t=some old) (L:w.frozen? t=false)
  (M: ∀W a,W.cell? a=some (.pointer (some t))→W.cell? t=some old→W.frozen? t=false→Below w.heap.size w W→Calls prog 60 #[.iface d v,.iface 58 (.pointer (some t)),.agg #[.pointer (some ⟨7,58,none⟩),.pointer (some a),.int .u64 150],.iface 137 (.agg #[.pointer (some ⟨7,54,none⟩)])] W fun q w'=>q= .returned (.bool r)∧R W w'):
  Calls prog 27 #[.iface d v,.iface 58 (.pointer (some t))] w fun q w'=>q= .returned (.bool r)∧ ∃W,Below w.heap.size w W∧R W w':=by
 have aj:= @eB prog 57 _ (fun args=>ReflectliteValue.unpack (args.getD 0 (.tuple #[]))) ma (by kernel_rfl) (by kernel_rfl) (by kernel_rfl) (by kernel_rfl)
 have ai:= @eB prog 58 _ (ReflectliteValue.methodAny (ReflectliteValue.valueError "reflectlite.Value.Type" 0) (fun t _ _ _=>ReflectliteType.toType t)) func58 (by kernel_rfl) (by kernel_rfl) (by kernel_rfl) (by kernel_rfl)
 have ah:= @eB prog 59 _ (ReflectliteValue.method (ReflectliteValue.valueError "reflectlite.Value.IsNil" 0) ReflectliteValue.isNil) func59 (by kernel_rfl) (by kernel_rfl) (by kernel_rfl) (by kernel_rfl)
 have ag:= @eB prog 244 _ (ReflectliteType.abiMethod fun t=>do pure (.int .u8 (←Rtype.kind t))) func244 (by kernel_rfl) (by kernel_rfl) (by kernel_rfl) (by kernel_rfl)
 have af:= @eB prog 257 _ (ReflectliteType.method ReflectliteType.elem) func257 (by kernel_rfl) (by kernel_rfl) (by kernel_rfl) (by kernel_rfl)
 have ae:= @eB prog 258 _ (ReflectliteType.relation "Implements" ReflectliteType.implements_) func258 (by kernel_rfl) (by kernel_rfl) (by kernel_rfl) (by kernel_rfl)
 have f6:=IA
 have f7:=Gb
 have V:=L6
 have Y:=L8
 have X:=No
 have Z:=Gz
 have aa:=GA
 have ak:=GM
 have ab:=GH
 have I:=nc D
 have F:=nc B
 have U:=EW ⟨w.heap.size,0,none⟩ t ((w.alloc (.cells #[.pointer (some t)] 58)).alloc (.cells #[.pointer (some ⟨7,58,none⟩),.pointer (some ⟨w.heap.size,0,none⟩),.int .u64 150] 88)) (by simp)
 have ad:((w.alloc (.cells #[.pointer (some t)] 58)).alloc (.cells #[.pointer (some ⟨7,58,none⟩),.pointer (some ⟨w.heap.size,0,none⟩),.int .u64 150] 88)).cell? ⟨0,0,none⟩=some (.iface 137 (.agg #[.pointer (some ⟨7,26,none⟩)])):=by
  rw[ei _ _ ⟨0,0,none⟩ (by rw[World.size_alloc];exact Nat.lt_succ_of_lt I),ei _ _ ⟨0,0,none⟩ I];exact D
 have E:Below w.heap.size w ((w.alloc (.cells #[.pointer (some t)] 58)).alloc (.cells #[.pointer (some ⟨7,58,none⟩),.pointer (some ⟨w.heap.size,0,none⟩),.int .u64 150] 88)):=((dU _ _).alloc (dQ _) _).alloc (by simp) _
 have Q:=dM (M ((w.alloc (.cells #[.pointer (some t)] 58)).alloc (.cells #[.pointer (some ⟨7,58,none⟩),.pointer (some ⟨w.heap.size,0,none⟩),.int .u64 150] 88)) ⟨w.heap.size,0,none⟩ (by rw[ei _ _ ⟨w.heap.size,0,none⟩ (by simp)];simp)
  (by rw[ei _ _ t (by simp;omega),ei _ _ t F];exact B)
  (by rw[fH _ _ t (by simp;omega),fH _ _ t (lP F)];exact L) E)
 have O:=dM E
 clear M D B L E
 go_enter func27,ntmps27
 go_wp2_with(go_at_call 60;refine Q.out.mono ?_;rintro q w' ⟨rfl,G⟩;have N:=dM G;clear G)
 go_ret
 exact⟨rfl,_,O.out,N.out⟩
theorem GT (d:TypeId) (v:Value) (t:Addr) (old:Value) (w:World) (r:Bool) (R:World→World→Prop) (D:w.cell? ⟨0,0,none⟩=some (.iface 137 (.agg #[.pointer (some ⟨7,26,none⟩)]))) (B:w.cell? t=some old) (L:w.frozen? t=false)
  (M: ∀W a,W.cell? a=some (.pointer (some t))→W.cell? t=some old→W.frozen? t=false→Below w.heap.size w W→Calls prog 60 #[.iface d v,.iface 261 (.pointer (some t)),.agg #[.pointer (some ⟨7,261,none⟩),.pointer (some a),.int .u64 150],.iface 137 (.agg #[.pointer (some ⟨7,188,none⟩)])] W fun q w'=>q= .returned (.bool r)∧R W w'):
  Calls prog 27 #[.iface d v,.iface 261 (.pointer (some t))] w fun q w'=>q= .returned (.bool r)∧ ∃W,Below w.heap.size w W∧R W w':=by
 have aj:= @eB prog 57 _ (fun args=>ReflectliteValue.unpack (args.getD 0 (.tuple #[]))) ma (by kernel_rfl) (by kernel_rfl) (by kernel_rfl) (by kernel_rfl)
 have ai:= @eB prog 58 _ (ReflectliteValue.methodAny (ReflectliteValue.valueError "reflectlite.Value.Type" 0) (fun t _ _ _=>ReflectliteType.toType t)) func58 (by kernel_rfl) (by kernel_rfl) (by kernel_rfl) (by kernel_rfl)
 have ah:= @eB prog 59 _ (ReflectliteValue.method (ReflectliteValue.valueError "reflectlite.Value.IsNil" 0) ReflectliteValue.isNil) func59 (by kernel_rfl) (by kernel_rfl) (by kernel_rfl) (by kernel_rfl)
 have ag:= @eB prog 244 _ (ReflectliteType.abiMethod fun t=>do pure (.int .u8 (←Rtype.kind t))) func244 (by kernel_rfl) (by kernel_rfl) (by kernel_rfl) (by kernel_rfl)
 have af:= @eB prog 257 _ (ReflectliteType.method ReflectliteType.elem) func257 (by kernel_rfl) (by kernel_rfl) (by kernel_rfl) (by kernel_rfl)
 have ae:= @eB prog 258 _ (ReflectliteType.relation "Implements" ReflectliteType.implements_) func258 (by kernel_rfl) (by kernel_rfl) (by kernel_rfl) (by kernel_rfl)
 have f6:=IB
 have f7:=Gc
 have V:=L6
 have Y:=L8
 have X:=No
 have Z:=GB
 have aa:=GC
 have ak:=GN
 have ab:=GI
 have I:=nc D
 have F:=nc B
 have U:=EX ⟨w.heap.size,0,none⟩ t ((w.alloc (.cells #[.pointer (some t)] 261)).alloc (.cells #[.pointer (some ⟨7,261,none⟩),.pointer (some ⟨w.heap.size,0,none⟩),.int .u64 150] 88)) (by simp)
 have ad:((w.alloc (.cells #[.pointer (some t)] 261)).alloc (.cells #[.pointer (some ⟨7,261,none⟩),.pointer (some ⟨w.heap.size,0,none⟩),.int .u64 150] 88)).cell? ⟨0,0,none⟩=some (.iface 137 (.agg #[.pointer (some ⟨7,26,none⟩)])):=by
  rw[ei _ _ ⟨0,0,none⟩ (by rw[World.size_alloc];exact Nat.lt_succ_of_lt I),ei _ _ ⟨0,0,none⟩ I];exact D
 have E:Below w.heap.size w ((w.alloc (.cells #[.pointer (some t)] 261)).alloc (.cells #[.pointer (some ⟨7,261,none⟩),.pointer (some ⟨w.heap.size,0,none⟩),.int .u64 150] 88)):=((dU _ _).alloc (dQ _) _).alloc (by simp) _
 have Q:=dM (M ((w.alloc (.cells #[.pointer (some t)] 261)).alloc (.cells #[.pointer (some ⟨7,261,none⟩),.pointer (some ⟨w.heap.size,0,none⟩),.int .u64 150] 88)) ⟨w.heap.size,0,none⟩ (by rw[ei _ _ ⟨w.heap.size,0,none⟩ (by simp)];simp)
  (by rw[ei _ _ t (by simp;omega),ei _ _ t F];exact B)
  (by rw[fH _ _ t (by simp;omega),fH _ _ t (lP F)];exact L) E)
 have O:=dM E
 clear M D B L E
 go_enter func27,ntmps27
 go_wp2_with(go_at_call 60;refine Q.out.mono ?_;rintro q w' ⟨rfl,G⟩;have N:=dM G;clear G)
 go_ret
 exact⟨rfl,_,O.out,N.out⟩
abbrev ErrTab (w:World):Prop:=w.cell? ⟨0,0,none⟩=some (.iface 137 (.agg #[.pointer (some ⟨7,26,none⟩)]))
theorem ErrTab.below {w w':World} (h:ErrTab w) (q:Below w.heap.size w w'):ErrTab w':=(q.cell (p:=⟨0,0,none⟩) (nc h)).trans h
theorem EN (w:World):Calls prog 12 #[.nilIface] w fun e w'=>e= .returned (.int .i64 0)∧w=w':=by
 go_enter func12,ntmps12
 go_wp2
 go_ret
 exact⟨rfl,rfl⟩
theorem CP (d:TypeId) (v:Value) (n:Int) (w:World) (G:ErrTab w)
  (B: ∀t a F old W,W.cell? a=some (.pointer (some t))→W.cell? t=some old→W.frozen? t=false→Below w.heap.size w W→Calls prog 60 #[.iface d v,F,.agg #[.pointer (some ⟨7,58,none⟩),.pointer (some a),.int .u64 150],.iface 137 (.agg #[.pointer (some ⟨7,54,none⟩)])] W (Jj t (.int .i64 n) W)):
  Calls prog 12 #[.iface d v] w fun e w'=>e= .returned (.int .i64 n)∧Below w.heap.size w w':=by
 have D:=GQ d v ⟨w.heap.size,0,none⟩ (.int .i64 0) (w.alloc (.cells #[.int .i64 0] 54)) true (fun W w'=>w'.cell? ⟨w.heap.size,0,none⟩=some (.int .i64 n)∧Below w.heap.size W w') (G.below (nO _ _)) (by simp) (by simp) (fun W a h1 M L I=>(B _ a _ _ W h1 M L ((nO _ _).trans (I.mono (by simp)))).mono fun e w' h=>⟨h.1,h.2⟩)
 have O:=dM D
 clear D B
 go_enter func12,ntmps12
 go_wp2_with(go_at_call 27;refine O.out.mono ?_;rintro R w' ⟨rfl,W,E,Q,q⟩;have N:=dM ((nO w _).trans ((E.mono (by simp)).trans q));clear E q)
 go_ret
 exact⟨rfl,N.out⟩
theorem AB (n:Int) (w:World) (B:ErrTab w):Calls prog 12 #[.iface 54 (.int .i64 n)] w fun e w'=>e= .returned (.int .i64 n)∧Below w.heap.size w w':=
 CP _ _ n w B fun t a q old W h1 E D _=>GR n t a q old W h1 E D
theorem Ei (v:Value) (w:World):(ReflectliteType.typeOf #[.iface 97 v]).run prog w= .ok (.iface 137 (.agg #[.pointer (some ⟨7,97,none⟩)])) w:=by kernel_rfl
theorem DE (w:World):(ReflectliteType.relation "AssignableTo" ReflectliteType.assignableTo #[.agg #[.pointer (some ⟨7,97,none⟩)],.iface 137 (.agg #[.pointer (some ⟨7,54,none⟩)])]).run prog w= .ok (.bool false) w:=by kernel_rfl
theorem IQ (v:Value) (q:TypeId) (w:World):(Instr.typeAssert (.iface 97 v) q 142 true).run prog w= .ok (.tuple #[.nilIface,.bool false]) w:=run_typeAssert_lacksB underlying142 (by kernel_rfl) (by kernel_rfl) v q w
theorem xW (v:Value) (q:TypeId) (w:World):(Instr.typeAssert (.iface 97 v) q 145 true).run prog w= .ok (.tuple #[.iface 97 v,.bool true]) w:=run_typeAssert_hasB underlying145 (by kernel_rfl) v q w
theorem NK (p:Addr) (w:World):(Go.method 404 97 (.pointer (some p)) "Unwrap").run prog w= .ok (252,.pointer (some p)) w:=by kernel_rfl
theorem tB (b o:Nat) (v:Value) (w:World) (h:w.cell? ⟨b,o,none⟩=some v):
  Calls prog 252 #[.pointer (some ⟨b,o,none⟩)] w fun e w'=>e= .returned v∧w=w':=by
 go_enter func252,ntmps252
 go_wp2
 go_ret
 exact⟨rfl,rfl⟩
theorem GP (n:Int) (t a:Addr) (I old:Value) (w:World) (b o:Nat) (D:w.cell? ⟨b,o,none⟩=some (.iface 54 (.int .i64 n))) (E:w.cell? a=some (.pointer (some t))) (q:w.cell? t=some old) (G:w.frozen? t=false):
  Calls prog 60 #[.iface 97 (.pointer (some ⟨b,o,none⟩)),I,.agg #[.pointer (some ⟨7,58,none⟩),.pointer (some a),.int .u64 150],.iface 137 (.agg #[.pointer (some ⟨7,54,none⟩)])] w (Jj t (.int .i64 n) w):=by
 have ae:= @eB prog 57 _ (fun args=>ReflectliteValue.unpack (args.getD 0 (.tuple #[]))) ma (by kernel_rfl) (by kernel_rfl) (by kernel_rfl) (by kernel_rfl)
 have ad:= @eB prog 88 _ ReflectliteType.typeOf func88 (by kernel_rfl) (by kernel_rfl) (by kernel_rfl) (by kernel_rfl)
 have Z:= @eB prog 255 _ (ReflectliteType.relation "AssignableTo" ReflectliteType.assignableTo) func255 (by kernel_rfl) (by kernel_rfl) (by kernel_rfl) (by kernel_rfl)
 have ab:= @eB prog 89 _ (ReflectliteValue.method (ReflectliteValue.valueError "reflectlite.Value.Elem" 0) ReflectliteValue.elem) func89 (by kernel_rfl) (by kernel_rfl) (by kernel_rfl) (by kernel_rfl)
 have aa:= @eB prog 90 _ ReflectliteValue.set func90 (by kernel_rfl) (by kernel_rfl) (by kernel_rfl) (by kernel_rfl)
 have Q:=yQ
 have X:=LH
 have aN:=vT
 have O:=tz
 have R:=Ei
 have af:=DE
 have V:=IQ
 have Y:=xW
 have W:=NK
 have F:=tB b o _ (w.alloc (.cells #[.pointer (some ⟨7,58,none⟩),.pointer (some a),.int .u64 150] 88)) ((ei _ _ ⟨b,o,none⟩ (nc D)).trans D)
 have M:=dM F
 have L:=nc E
 have B:=nc q
 have el:=zm a t (w.alloc (.cells #[.pointer (some ⟨7,58,none⟩),.pointer (some a),.int .u64 150] 88)) (by rw[ei _ _ a L];exact E)
 have U:=FK t ⟨w.heap.size+1,0,none⟩ n old ((w.alloc (.cells #[.pointer (some ⟨7,58,none⟩),.pointer (some a),.int .u64 150] 88)).alloc (.cells #[(.int .i64 n)] 54))
  (by rw[jz _ _ _ _ (by simp)];rfl)
  (by rw[ei _ _ t (by simp;omega),ei _ _ t B];exact q)
  (by rw[fH _ _ t (by simp;omega),fH _ _ t (lP B)];exact G)
 have N:Hid (Jj t (.int .i64 n) w (.returned (.bool true)) (((w.alloc (.cells #[.pointer (some ⟨7,58,none⟩),.pointer (some a),.int .u64 150] 88)).alloc (.cells #[(.int .i64 n)] 54)).setCell t (.int .i64 n))):=dM ⟨rfl,kB _ _ _ (u:=old) (by rw[ei _ _ t (by simp;omega),ei _ _ t B];exact q),(((dU _ _).alloc (by omega) _).alloc (by simp;omega) _).setCell (dQ _) _⟩
 clear E q G D F
 go_enter func60,ntmps60
 go_wp2
 refine jI 2 ?_
 rw[ke]
 go_wp2_with(go_at_call 252;refine M.out.mono ?_;rintro e w' ⟨rfl,rfl⟩)
 rw[ke]
 go_wp2
 go_ret
 exact N.out
theorem EM (n:Int) (b o:Nat) (w:World) (D:ErrTab w) (q:w.cell? ⟨b,o,none⟩=some (.iface 54 (.int .i64 n))):Calls prog 12 #[.iface 97 (.pointer (some ⟨b,o,none⟩))] w fun e w'=>e= .returned (.int .i64 n)∧Below w.heap.size w w':=
 CP _ _ n w D fun t a B old W h1 G F E=>GP n t a B old W b o ((E.cell (p:=⟨b,o,none⟩) (nc q)).trans q) h1 G F
def WErr (n:Int) (v:Value) (w:World):Prop:=
 (n=0∧v= .nilIface)∨(n≠0∧v= .iface 54 (.int .i64 n))∨(n≠0∧ ∃b,v= .iface 97 (.pointer (some ⟨b,0,none⟩))∧w.cell? ⟨b,0,none⟩=some (.iface 54 (.int .i64 n)))
theorem WErr.below {n:Int} {v:Value} {w w':World} (h:WErr n v w) (q:Below w.heap.size w w'):WErr n v w':=by
 rcases h with h|h|⟨h,b,e,h0⟩
 ·exact .inl h
 ·exact .inr (.inl h)
 ·exact .inr (.inr ⟨h,b,e,(q.cell (p:=⟨b,0,none⟩) (nc h0)).trans h0⟩)
theorem WErr.nil {v:Value} {w:World} (h:WErr 0 v w):v= .nilIface:=by
 rcases h with⟨_,h⟩|⟨h,_⟩|⟨h,_⟩
 ·exact h
 ·exact absurd rfl h
 ·exact absurd rfl h
theorem WErr.iface {n:Int} {v:Value} {w:World} (h:WErr n v w) (q:n≠0): ∃d x,v= .iface d x:=by
 rcases h with⟨h,_⟩|⟨_,h⟩|⟨_,b,h,_⟩
 ·exact absurd h q
 ·exact⟨_,_,h⟩
 ·exact⟨_,_,h⟩
theorem Gx {n:Int} {v:Value} {W:World} (h:WErr n v W) (q:ErrTab W):Calls prog 12 #[v] W fun e w'=>e= .returned (.int .i64 n)∧Below W.heap.size W w':=by
 rcases h with⟨rfl,rfl⟩|⟨_,rfl⟩|⟨_,b,rfl,h0⟩
 ·refine(EN W).mono ?_
  rintro e w' ⟨rfl,rfl⟩
  exact⟨rfl,dU _ _⟩
 ·exact AB n W q
 ·exact EM n b 0 W q h0
end Go.Proofs.YtceddodfddlncaaGreatDoor
namespace Go.Proofs.YtceddodfddlncaaGreatDoor
open Go Go.RowKit Tryz
structure ErrAsk (g:Nat) (caps:Array Value) (I J:World→Prop) (E:Value→World→Prop):Prop where
 enters: ∀args w,(callFunc g args).run prog w= .ok (.enter g args) w
 call: ∀w,I w→Calls prog g caps w fun e w'=>(e= .returned .nilIface∧J w')∨ ∃d x,e= .returned (.iface d x)∧E (.iface d x) w'
def yD (n:Nat) (I:Nat→World→Prop) (E:Value→World→Prop) (e:Ending) (w':World):Prop:=(e= .returned .nilIface∧I n w')∨ ∃d x,e= .returned (.iface d x)∧E (.iface d x) w'
theorem Ln (b c n:Nat) (q:List (Nat×Array Value)) (I:Nat→World→Prop) (E:Value→World→Prop) (w:World) (M:q.length=n) (aa:n≤1000)
  (L: ∀i f w',q[i]? =some f→I i w'→w'.cell? ⟨b,i,none⟩=some (.func (.func f.1) #[] f.2))
  (G: ∀i f,q[i]? =some f→ErrAsk f.1 f.2 (I i) (I (i+1)) E) (h0:I 0 w):
  Calls prog 19 #[.slice (some ⟨b,0,none⟩) n c] w (yD n I E):=by
 have X:=dM L
 have W:=dM G
 have Y:=dM M
 have H0:=dM h0
 clear L G M h0
 go_enter func19,ntmps19
 go_wp2
 go_loopw[8] (fun i wr=> ∃k:Nat,k≤n∧i= .int .i64 (k:Int)∧I k wr) (fun i _=>n-(intOf i).toNat)
 case atStart=>exact⟨0,eN _,rfl,H0.out⟩
 case round=>
  obtain⟨k,hk,rfl,Q⟩:=hrel
  have F:=dM Q
  clear Q
  by_cases U:k<n
  ·have N:k<q.length:=by rw[Y.out];exact U
   obtain⟨f,D⟩: ∃f,q[k]? =some f:=⟨_,dZ N⟩
   have hc:=X.out k f wr D F.out
   have B:=W.out k f D
   have HC:=dM (B.call wr F.out)
   have eg:=B.enters
   obtain⟨g,ad⟩:=f
   have ab:(0:Int)≤(k:Int):=by omega
   have V:(k:Int)<(n:Int):=by omega
   clear B D N
   go_wp2_with fail
   refine HC.out.mono ?_
   rintro e w1 (⟨rfl,O⟩|⟨d,x,rfl,R⟩)
   ·have Z:=dM O
    clear O
    go_wp2
    go_roundw
    case rel=>exact⟨k+1,by omega,by go_num,Z.out⟩
    case measure=>simp[intOf];omega
   ·have HE:=dM R
    clear R
    go_wp2
    go_ret
    exact .inr ⟨_,_,rfl,HE.out⟩
  ·obtain rfl:k=n:=by omega
   have V: ¬(k:Int)<(k:Int):=by omega
   go_wp2
   go_ret
   exact .inl ⟨rfl,F.out⟩
theorem Eh {n:Int} {b:Nat} {w:World} (q:n≠0) (h:w.cell? ⟨b,0,none⟩=some (.iface 54 (.int .i64 n))):WErr n (.iface 97 (.pointer (some ⟨b,0,none⟩))) w:= .inr (.inr ⟨q,b,rfl,h⟩)
theorem tC (E D B:Nat) (no:Int) (L:ByteArray) (q:Nat) (first M:Array Value) (r:Bool) (R:World→Prop) (w:World) (Z:no≠0)
  (h5:w.cell? ⟨E,0,none⟩=some (.func (.func q) first M)) (h3:w.cell? ⟨D,0,none⟩=some (.int .i64 no)) (h4:w.cell? ⟨B,0,none⟩=some (.string L))
  (aa: ∀args w,(callFunc q args).run prog w= .ok (.enter q args) w) (I: ∀W N,R W→Below W.heap.size W N→R N)
  (F:Calls prog q (first++M) w fun e w'=>e= .returned (.bool r)∧R w'∧w'.cell? ⟨D,0,none⟩=some (.int .i64 no)∧w'.cell? ⟨B,0,none⟩=some (.string L)):
  Calls prog 61 #[.pointer (some ⟨E,0,none⟩),.pointer (some ⟨D,0,none⟩),.pointer (some ⟨B,0,none⟩)] w fun e w'=>(r=true∧e= .returned .nilIface∧R w')∨(r=false∧ ∃b,e= .returned (.iface 97 (.pointer (some ⟨b,0,none⟩)))∧w'.cell? ⟨b,0,none⟩=some (.iface 54 (.int .i64 no))∧R w'):=by
 have U:=dM F
 have Q:=dM I
 clear F I
 go_enter kg,ntmps61
 go_wp2_with fail
 refine U.out.mono ?_
 rintro e V ⟨rfl,G,Y,X⟩
 have O:=dM G
 clear G
 cases r with
 |true=>
  go_wp2
  go_ret
  exact⟨rfl,O.out⟩
 |false=>
  go_wp2
  go_ret
  exact⟨_,rfl,by simp,Q.out _ _ O.out (nO _ _)⟩
end Go.Proofs.YtceddodfddlncaaGreatDoor
namespace Go.Proofs.YtceddodfddlncaaGreatDoor
open Go Go.RowKit Go.Extern.Stop Go.Stop Go.Extern Tryz
def Ji (t:Addr) (tb:Nat) (v:Value) (w:World) (e:Ending) (w':World):Prop:=e= .returned (.bool true)∧w'.cell? t=some v∧w.grownBy w' (some tb)
theorem GS (p:Addr) (q:Nat) (t a:Addr) (I old:Value) (w:World) (E:w.cell? a=some (.pointer (some t))) (B:w.cell? t=some old) (G:w.frozen? t=false) (F:t=⟨q,0,none⟩):
  Calls prog 60 #[.iface 188 (.pointer (some p)),I,.agg #[.pointer (some ⟨7,261,none⟩),.pointer (some a),.int .u64 150],.iface 137 (.agg #[.pointer (some ⟨7,188,none⟩)])] w (Ji t q (.pointer (some p)) w):=by
 have Y:= @eB prog 57 _ (fun args=>ReflectliteValue.unpack (args.getD 0 (.tuple #[]))) ma (by kernel_rfl) (by kernel_rfl) (by kernel_rfl) (by kernel_rfl)
 have X:= @eB prog 88 _ ReflectliteType.typeOf func88 (by kernel_rfl) (by kernel_rfl) (by kernel_rfl) (by kernel_rfl)
 have U:= @eB prog 255 _ (ReflectliteType.relation "AssignableTo" ReflectliteType.assignableTo) func255 (by kernel_rfl) (by kernel_rfl) (by kernel_rfl) (by kernel_rfl)
 have W:= @eB prog 89 _ (ReflectliteValue.method (ReflectliteValue.valueError "reflectlite.Value.Elem" 0) ReflectliteValue.elem) func89 (by kernel_rfl) (by kernel_rfl) (by kernel_rfl) (by kernel_rfl)
 have V:= @eB prog 90 _ ReflectliteValue.set func90 (by kernel_rfl) (by kernel_rfl) (by kernel_rfl) (by kernel_rfl)
 have O:=Ej
 have R:=LH
 have aN:=DF
 have N:=BW
 have L:=nc E
 have D:=nc B
 have Z:=E_ a t (w.alloc (.cells #[.pointer (some ⟨7,261,none⟩),.pointer (some a),.int .u64 150] 88)) (by rw[ei _ _ a L];exact E)
 have Q:=IF t ⟨w.heap.size+1,0,none⟩ p old ((w.alloc (.cells #[.pointer (some ⟨7,261,none⟩),.pointer (some a),.int .u64 150] 88)).alloc (.cells #[(.pointer (some p))] 188))
  (by rw[jz _ _ _ _ (by simp)];rfl)
  (by rw[ei _ _ t (by simp;omega),ei _ _ t D];exact B)
  (by rw[fH _ _ t (by simp;omega),fH _ _ t (lP D)];exact G)
 have M:Hid (Ji t q (.pointer (some p)) w (.returned (.bool true)) (((w.alloc (.cells #[.pointer (some ⟨7,261,none⟩),.pointer (some a),.int .u64 150] 88)).alloc (.cells #[(.pointer (some p))] 188)).setCell t (.pointer (some p)))):=dM ⟨rfl,kB _ _ _ (u:=old) (by rw[ei _ _ t (by simp;omega),ei _ _ t D];exact B),((dO w _ (some q)).trans (dO _ _ (some q))).trans (by rw[F];exact ou _ q 0 _)⟩
 clear E B G F
 go_enter func60,ntmps60
 go_wp2
 refine jI 1 ?_
 rw[ke]
 go_wp2
 go_ret
 exact M.out
end Go.Proofs.YtceddodfddlncaaGreatDoor
