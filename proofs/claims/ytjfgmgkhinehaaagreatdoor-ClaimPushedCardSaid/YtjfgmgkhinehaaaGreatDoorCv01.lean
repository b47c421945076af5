
import Derived.Test.YtjfgmgkhinehaaaGreatDoorCq01
import Derived.Test.YtjfgmgkhinehaaaGreatDoorCq02
set_option maxRecDepth 100000
set_option maxHeartbeats 16000000
set_option linter.all false
namespace Go.Proofs.YtjfgmgkhinehaaaGreatDoor
open Go Go.RowKit Go.Extern.Stop Go.Stop Go.Extern
theorem assignAN (w:World):(ReflectliteType.relation "AssignableTo" ReflectliteType.assignableTo #[.agg #[.pointer (some ⟨3,120,none⟩)],.iface 183 (.agg #[.pointer (some ⟨3,95,none⟩)])]).run Tryz.prog w= .ok (.bool false) w:=by kernel_rfl
theorem noAsA (v:Value) (xT:TypeId) (w:World):(Instr.typeAssert (.iface 120 v) xT 187 true).run Tryz.prog w= .ok (.tuple #[.nilIface,.bool false]) w:=run_typeAssert_lacksB Tryz.underlying187 (by kernel_rfl) (by kernel_rfl) v xT w
theorem hasUnwrap (v:Value) (xT:TypeId) (w:World):(Instr.typeAssert (.iface 120 v) xT 190 true).run Tryz.prog w= .ok (.tuple #[.iface 120 v,.bool true]) w:=run_typeAssert_hasB Tryz.underlying190 (by kernel_rfl) v xT w
theorem zoq (p:Addr) (w:World):(Go.method 391 120 (.pointer (some p)) "Unwrap").run Tryz.prog w= .ok (244,.pointer (some p)) w:=by kernel_rfl
theorem zox (b o:Nat) (v:Value) (w:World) (h:w.cell? ⟨b,o+1,none⟩=some v):
  Calls Tryz.prog 244 #[.pointer (some ⟨b,o,none⟩)] w fun e w'=>e= .returned v∧w=w':=by
 go_enter Tryz.func244,Tryz.ntmps244
 go_wp2
 go_ret
 exact⟨rfl,rfl⟩
theorem asAtN (n:Int) (t a:Addr) (tg old:Value) (w:World) (b o:Nat) (he:w.cell? ⟨b,o+1,none⟩=some (.iface 95 (.int .i64 n))) (ha:w.cell? a=some (.pointer (some t))) (ht:w.cell? t=some old) (hf:w.frozen? t=false):
  Calls Tryz.prog 107 #[.iface 120 (.pointer (some ⟨b,o,none⟩)),tg,.agg #[.pointer (some ⟨3,111,none⟩),.pointer (some a),.int .u64 150],.iface 183 (.agg #[.pointer (some ⟨3,95,none⟩)])] w (Hit t (.int .i64 n) w):=by
 have h55:= @run_callFunc_extern Tryz.prog 104 _ (fun args=>ReflectliteValue.unpack (args.getD 0 (.tuple #[]))) Tryz.func104 (by kernel_rfl) (by kernel_rfl) (by kernel_rfl) (by kernel_rfl)
 have h62:= @run_callFunc_extern Tryz.prog 133 _ ReflectliteType.typeOf Tryz.func133 (by kernel_rfl) (by kernel_rfl) (by kernel_rfl) (by kernel_rfl)
 have h91:= @run_callFunc_extern Tryz.prog 252 _ (ReflectliteType.relation "AssignableTo" ReflectliteType.assignableTo) Tryz.func252 (by kernel_rfl) (by kernel_rfl) (by kernel_rfl) (by kernel_rfl)
 have h63:= @run_callFunc_extern Tryz.prog 136 _ (ReflectliteValue.method (ReflectliteValue.valueError "reflectlite.Value.Elem" 0) ReflectliteValue.elem) Tryz.func136 (by kernel_rfl) (by kernel_rfl) (by kernel_rfl) (by kernel_rfl)
 have h64:= @run_callFunc_extern Tryz.prog 137 _ ReflectliteValue.set Tryz.func137 (by kernel_rfl) (by kernel_rfl) (by kernel_rfl) (by kernel_rfl)
 have tO:=typeOfN
 have mA:=zdX
 have aN:=assignNN
 have vN:=valueOfN
 have tA:=typeOfA
 have aAN:=assignAN
 have nA:=noAsA
 have hU:=hasUnwrap
 have mU:=zoq
 have hu:=zox b o _ (w.alloc (.cells #[.pointer (some ⟨3,111,none⟩),.pointer (some a),.int .u64 150] 145)) ((World.cell?_alloc_lt _ _ ⟨b,o+1,none⟩ (zab he)).trans he)
 have HU:=Lib.hid hu
 have hal:=zab ha
 have htl:=zab ht
 have el:=elemVNT a t (w.alloc (.cells #[.pointer (some ⟨3,111,none⟩),.pointer (some a),.int .u64 150] 145)) (by rw[World.cell?_alloc_lt _ _ a hal];exact ha)
 have st:=setNE t ⟨w.heap.size+1,0,none⟩ n old ((w.alloc (.cells #[.pointer (some ⟨3,111,none⟩),.pointer (some a),.int .u64 150] 145)).alloc (.cells #[(.int .i64 n)] 95))
  (by rw[World.cell?_alloc_at _ _ _ _ (by simp)];rfl)
  (by rw[World.cell?_alloc_lt _ _ t (by simp;omega),World.cell?_alloc_lt _ _ t htl];exact ht)
  (by rw[World.frozen?_alloc_old _ _ t (by simp;omega),World.frozen?_alloc_old _ _ t (Nat.ne_of_lt htl)];exact hf)
 have HF:Hid (Hit t (.int .i64 n) w (.returned (.bool true)) (((w.alloc (.cells #[.pointer (some ⟨3,111,none⟩),.pointer (some a),.int .u64 150] 145)).alloc (.cells #[(.int .i64 n)] 95)).setCell t (.int .i64 n))):=Lib.hid ⟨rfl,World.cell?_setCell_same _ _ _ (u:=old) (by rw[World.cell?_alloc_lt _ _ t (by simp;omega),World.cell?_alloc_lt _ _ t htl];exact ht),(((Below.refl _ _).alloc (by omega) _).alloc (by simp;omega) _).setCell (Nat.le_refl _) _⟩
 clear ha ht hf he hu
 go_enter Tryz.func107,Tryz.ntmps107
 go_wp2
 refine wp_loop_rounds 2 ?_
 rw[rounds_succ]
 go_wp2_with(go_at_call 244;refine HU.out.mono ?_;rintro e w' ⟨rfl,rfl⟩)
 rw[rounds_succ]
 go_wp2
 go_ret
 exact HF.out
theorem num_at (n:Int) (b o:Nat) (w:World) (hg:ErrTab w) (he:w.cell? ⟨b,o+1,none⟩=some (.iface 95 (.int .i64 n))):Calls Tryz.prog 35 #[.iface 120 (.pointer (some ⟨b,o,none⟩))] w fun e w'=>e= .returned (.int .i64 n)∧Below w.heap.size w w':=
 num_of _ _ n w hg fun t a tg old W h1 h2 h3 h4=>asAtN n t a tg old W b o ((h4.cell (p:=⟨b,o+1,none⟩) (zab he)).trans he) h1 h2 h3
end Go.Proofs.YtjfgmgkhinehaaaGreatDoor
