
import Derived.Deep.Slices
import Derived.Deep.Fields
import Derived.ChangeSame
import Derived.Carry
import Derived.Test.YtceddodfddlncaaGreatDoorJv04
set_option maxRecDepth 100000
set_option maxHeartbeats 16000000
set_option linter.all false
namespace Go.Proofs.YtceddodfddlncaaGreatDoor
open Go Go.RowKit Go.ChangeShapes Go.WideShapes Go.Deep Tryz
section
variable {H:Type} {enc:TypeId×Value→H} {P:Program} {w:World} {base:Nat} {spare:Nat→Bool} {held:Bool}
theorem uu {t e:TypeId} {q:Array Field} {fuel:Nat} {cs:List Value} {x:DataW H×List MemPlace} (Q:P.underlying t=some (.slice e)) (he:P.underlying e=some (.struct q))
  (U:oneCellFields P q=true) (hC:P.cellsOf e=q.size) (h:DataW.trod enc P w base spare held fuel t cs=some x):
  (cs=[.slice none 0 0])∨
  ∃(a:Addr) (len B m:Nat),cs=[.slice (some a) len B]∧len≤B∧B≤maxLen∧len≤m∧
   ∀i,i<m→ ∀(j:Nat) (f:Field),q[j]? =some f→ ∃(v:Value) (y:DataW H×List MemPlace) (n:Nat),w.cell? (a.add (i*q.size+j))=some v∧DataW.trod enc P w base spare held n f.type [v]=some y:=by
 rcases open_slice Q h with h0|⟨a,len,B,m,n,D,Pl,ad,hb,Y,X,W,hx,hi⟩
 ·exact .inl h0.1
 ·refine .inr ⟨a,len,B,m,ad,Y,X,by rw[W];split<;>omega,fun i ab j f F=> ?_⟩
  obtain⟨E,I,O⟩:=hi i ab
  rw[hC]at I
  obtain⟨G,L,ah,hy,ai,ag,hf⟩:=DataW.trod_struct he O
  obtain⟨_,aj,af⟩:=World.cells?_some I
  obtain⟨V,Z⟩:=hone_of U j f F
  have aa:j<q.size:=(Array.getElem?_eq_some_iff.1 F).1
  have ae:=af j aa
  have N:E[j]? =some (E[j]'(by omega)):=dZ (by omega)
  have h1:=hf j f F
  rw[V,Z]at h1
  have R:(E.drop j).take 1=[E[j]'(by omega)]:=by
   rw[eD (by omega)]
   rfl
  rw[R]at h1
  have M:G[j]? =some (G[j]'(by omega)):=dZ (by omega)
  refine⟨_,_,L,?_,h1.trans M⟩
  rw[←Go.Deep.add_add,ae,N]
end
theorem q6 {H:Type} {enc:TypeId×Value→H} {w:World} {base b0:Nat} {r:Reach} {Y:Nat→Bool} {ae:Bool} {v:Value} {d:DataW H} {p:List MemPlace} (Z:Value.okWide prog w r b0 22 v) (h:DataW.Trod enc prog w base Y ae 22 v d p):
  ∃A n c,∃E:List mV,v= .slice A n c∧E.length=n∧n≤c∧n≤9223372036854775807∧KeyOk E∧RingAt w A E:=by
 obtain⟨a0,len,af,rfl⟩:=okWide_slice underlying22 Z
 obtain⟨fuel,hf⟩:=h
 rcases uu underlying22 underlying41 (by kernel_rfl) (by kernel_rfl) hf with B|⟨a,ag,ai,m,B,hl,hm,ah,hi⟩
 ·simp[Value.cells]at B
  obtain⟨rfl,rfl,rfl⟩:=B
  exact⟨none,0,0,[],rfl,rfl,dQ _,by omega,(fun k F=>by cases F),RingAt.nil _ _⟩
 ·simp[Value.cells]at B
  obtain⟨rfl,rfl,rfl⟩:=B
  have D: ∀i,i<len→ ∃q:ByteArray×ByteArray,(w.cell? (a.add (i*2))=some (.string q.1)∧w.cell? (a.add (i*2+1))=some (.string q.2))∧q.1.size≤9223372036854775807∧q.2.size≤9223372036854775807:=fun i G=>by
   obtain⟨v0,y0,n0,c0,t0⟩:=hi i (by omega) 0 _ rfl
   obtain⟨v1,y1,n1,c1,W⟩:=hi i (by omega) 1 _ rfl
   obtain⟨L,U,_,z0⟩:=DataW.trod_string ew t0
   obtain⟨I,R,_,V⟩:=DataW.trod_string ew W
   simp at U R
   subst U;subst R
   unfold maxLen at z0 V
   exact⟨(L,I),⟨c0,c1⟩,by show L.size≤_;omega,by show I.size≤_;omega⟩
  refine⟨some a,len,af,List.ofFn fun i:Fin len=>(D i.val i.isLt).choose,rfl,by simp,hl,by unfold maxLen at hm;omega,fun k F=> ?_,fun ab=> ?_⟩
  ·obtain⟨i,O,rfl⟩:=List.getElem_of_mem F
   rw[List.length_ofFn]at O
   rw[List.getElem_ofFn]
   exact(D i O).choose_spec.2
  have hp:0<len:=Nat.pos_of_ne_zero fun e=>by subst e;exact ab rfl
  obtain⟨b,o,X⟩:=a
  obtain⟨q,⟨N,_⟩,_⟩:=D 0 hp
  have aa:X=none:=by simpa[Addr.add]using World.cell?_spot N
  subst aa
  refine⟨b,o,rfl,?_,fun i q ad=> ?_⟩
  ·have:=nc N
   rw[eW]at this
   exact this
  ·obtain⟨G,Q⟩:=eP.1 ad
   rw[List.length_ofFn]at G
   rw[List.getElem_ofFn]at Q
   have M:=(D i G).choose_spec.1
   rw[Q,eW,eW,←ln]at M
   exact M
end Go.Proofs.YtceddodfddlncaaGreatDoor
