
import Derived.Test.YtjfgmgkhinehaaaGreatDoorCq17
import Derived.Test.YtjfgmgkhinehaaaGreatDoorCq35
set_option maxRecDepth 100000
set_option maxHeartbeats 16000000
set_option linter.all false
namespace Go.Proofs.YtjfgmgkhinehaaaGreatDoor
open Go Go.RowKit Go.ChangeShapes Go.WideShapes Go.Deep
theorem list_seven {α:Type}: ∀(l:List α),l.length=7→ ∃a b c d e f g,l=[a,b,c,d,e,f,g]
 |[a,b,c,d,e,f,g],_=>⟨a,b,c,d,e,f,g,rfl⟩
theorem sized_tok:Tryz.prog.cellsOf 42=7:=by kernel_rfl
section
variable {H:Type} {enc:TypeId×Value→H} {w:World} {base:Nat} {sp:Nat→Bool} {held:Bool}
theorem open_tok {r:Reach} {b0:Nat} {v:Value} {d:DataW H} {p:List MemPlace} (hv:Value.okWide Tryz.prog w r b0 42 v) (h:DataW.Trod enc Tryz.prog w base sp held 42 v d p):
  ∃(t:TokM) (A:Option Addr) (c:Nat),v= .agg #[.string t.iss,.string t.jti,.string t.cid,.string t.sub,.slice A t.sc.length c,.int .i64 t.iat,.int .i64 t.exp]∧RawN w (.slice A t.sc.length c) t.sc:=by
 simp only[Value.okWide,Tryz.underlying42]at hv
 obtain⟨cs,rfl,_,_⟩:=hv
 obtain⟨fuel,hf⟩:=h
 obtain⟨n,xs,rfl,hlen,hxl,hj⟩:=struct_ones Tryz.underlying42 (by kernel_rfl) hf
 rw[sized_tok]at hlen
 obtain⟨a0,a1,a2,a3,a4,a5,a6,e⟩:=list_seven _ hlen
 replace hxl:xs.length=7:=hxl
 rw[e]at hj
 have f0:=hj 0 _ a0 rfl rfl
 have f1:=hj 1 _ a1 rfl rfl
 have f2:=hj 2 _ a2 rfl rfl
 have f3:=hj 3 _ a3 rfl rfl
 have f4:=hj 4 _ a4 rfl rfl
 have f5:=hj 5 _ a5 rfl rfl
 have f6:=hj 6 _ a6 rfl rfl
 rw[List.getElem?_eq_getElem (by omega)]at f0 f1 f2 f3 f4 f5 f6
 obtain⟨s0,e0,_,_⟩:=DataW.trod_string Tryz.underlying9 f0
 obtain⟨s1,e1,_,_⟩:=DataW.trod_string Tryz.underlying9 f1
 obtain⟨s2,e2,_,_⟩:=DataW.trod_string Tryz.underlying9 f2
 obtain⟨s3,e3,_,_⟩:=DataW.trod_string Tryz.underlying9 f3
 obtain⟨v4,k,e4,hk⟩:=trod_strs f4
 obtain⟨n5,e5,_⟩:=DataW.trod_int Tryz.underlying2 f5
 obtain⟨n6,e6,_⟩:=DataW.trod_int Tryz.underlying2 f6
 injection e0 with e0 _;injection e1 with e1 _;injection e2 with e2 _;injection e3 with e3 _;injection e4 with e4 _;injection e5 with e5 _;injection e6 with e6 _
 subst e0;subst e1;subst e2;subst e3;subst e4;subst e5;subst e6
 obtain⟨A,c,hv4,h9⟩:=hk
 have e2:cs= #[.string s0,.string s1,.string s2,.string s3,.slice A k.length c,.int .i64 n5,.int .i64 n6]:=by
  apply Array.ext'
  rw[←hv4]
  simpa[Value.cells]using e
 rw[e2]
 exact⟨⟨s0,s1,s2,s3,k,n5,n6⟩,A,c,rfl,A,c,rfl,h9⟩
end
end Go.Proofs.YtjfgmgkhinehaaaGreatDoor
