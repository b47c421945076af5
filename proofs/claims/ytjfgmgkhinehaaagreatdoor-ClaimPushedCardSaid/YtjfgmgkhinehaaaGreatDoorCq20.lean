
import Derived.WalkLawsBesides
import Derived.WalkSpells
import Derived.Handy
import Derived.RegionTactic
import Derived.LoopTactic
import Derived.StillTailTactics
import Derived.Laws.ResultCell
import Derived.Test.YtjfgmgkhinehaaaGreatDoorCq02
set_option maxRecDepth 100000
set_option maxHeartbeats 16000000
set_option linter.all false
namespace Go.Proofs.YtjfgmgkhinehaaaGreatDoor
open Go Go.RowKit Go.Extern.Stop Go.Stop Go.Extern
theorem zix (h:Value) (w:World):(Go.method 391 183 (.agg #[h]) "Comparable").run Tryz.prog w= .ok (253,.agg #[h]) w:=by kernel_rfl
theorem noIsN (v:Value) (xT:TypeId) (w:World):(Instr.typeAssert (.iface 95 v) xT 216 true).run Tryz.prog w= .ok (.tuple #[.nilIface,.bool false]) w:=run_typeAssert_lacksB Tryz.underlying216 (by kernel_rfl) (by kernel_rfl) v xT w
theorem eqlN (a b:Int) (w:World):(binOp .eql 46 (.iface 95 (.int .i64 a)) (.iface 95 (.int .i64 b))).run Tryz.prog w= .ok (.bool (a==b)) w:=by kernel_rfl
def zkp:Array Value→Sem Value:=ReflectliteType.method fun t=>do Rtype.noPackHeld "Comparable" t;pure (.bool (←typeInfo t).comparable)
theorem comparableE (w:World):(zkp #[.agg #[.pointer (some ⟨3,95,none⟩)]]).run Tryz.prog w= .ok (.bool true) w:=by kernel_rfl
theorem isE_any (a b:Int) (w:World):Calls Tryz.prog 134 #[.iface 95 (.int .i64 a),.iface 95 (.int .i64 b),.bool true] w fun e w'=>e= .returned (.bool (a==b))∧w=w':=by
 have e1:=eqlN a b
 have n1:=noIsN
 have n2:=noUnwrap
 have n3:=noUnwraps
 obtain⟨r,hr⟩: ∃r,r=(a==b):=⟨_,rfl⟩
 rw[←hr]
 rw[←hr]at e1
 clear hr
 cases r with
 |true=>
  go_enter Tryz.func134,Tryz.ntmps134
  go_wp2
  refine wp_loop_rounds 1 ?_
  rw[rounds_succ]
  go_wp2
  go_ret
  exact⟨rfl,rfl⟩
 |false=>
  go_enter Tryz.func134,Tryz.ntmps134
  go_wp2
  refine wp_loop_rounds 1 ?_
  rw[rounds_succ]
  go_wp2
  go_ret
  exact⟨rfl,rfl⟩
theorem IsE_any (a b:Int) (w:World):Calls Tryz.prog 98 #[.iface 95 (.int .i64 a),.iface 95 (.int .i64 b)] w fun e w'=>e= .returned (.bool (a==b))∧w=w':=by
 have h62:= @run_callFunc_extern Tryz.prog 133 _ ReflectliteType.typeOf Tryz.func133 (by kernel_rfl) (by kernel_rfl) (by kernel_rfl) (by kernel_rfl)
 have h63:= @run_callFunc_extern Tryz.prog 253 _ zkp Tryz.func253 (by kernel_rfl) (by kernel_rfl) (by kernel_rfl) (by kernel_rfl)
 have tO:=typeOfN
 have mC:=zix
 have cE:=comparableE
 have HI:=Lib.hid (fun W=>isE_any a b W)
 obtain⟨r,hr⟩: ∃r,r=(a==b):=⟨_,rfl⟩
 rw[←hr]at HI⊢
 clear hr
 go_enter Tryz.func98,Tryz.ntmps98
 go_wp2_with(go_at_call 134;(with_reducible refine(HI.out _).mono ?_);rintro e w' ⟨rfl,rfl⟩)
 go_ret
 exact⟨rfl,rfl⟩
theorem refuse_num (n:Int) (hn:n≠0) (w:World):Calls Tryz.prog 68 #[.iface 95 (.int .i64 n)] w fun e w'=> ∃d x,e= .returned (.iface d x)∧CErr 90 (.iface d x) w'∧Below w.heap.size w w':=by
 have HI:=Lib.hid (fun W=>IsE_any n 90 W)
 by_cases h90:n=90
 ·subst h90
  rw[show((90:Int)==90)=true from rfl]at HI
  go_enter Tryz.func68,Tryz.ntmps68
  go_wp2_with(go_at_call 98;(with_reducible refine(HI.out _).mono ?_);rintro e w' ⟨rfl,rfl⟩)
  go_ret
  exact⟨_,_,rfl,.inr (.inl ⟨by decide,rfl⟩),Below.refl _ _⟩
 ·rw[show(n==90)=false by rw[beq_eq_false_iff_ne];exact h90]at HI
  go_enter Tryz.func68,Tryz.ntmps68
  go_wp2_with(go_at_call 98;(with_reducible refine(HI.out _).mono ?_);rintro e w' ⟨rfl,rfl⟩)
  go_ret
  exact⟨_,_,rfl,.inr (.inr ⟨rfl,_,_,_,rfl,by simp;exact⟨rfl,rfl⟩⟩),zaf _ _⟩
end Go.Proofs.YtjfgmgkhinehaaaGreatDoor
