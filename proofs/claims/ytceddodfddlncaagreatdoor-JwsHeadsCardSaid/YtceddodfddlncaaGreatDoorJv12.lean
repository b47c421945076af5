
import Derived.Laws.ResultCell
import Derived.Test.YtceddodfddlncaaGreatDoorJv08
set_option maxRecDepth 100000
set_option maxHeartbeats 16000000
set_option linter.all false
namespace Go.Proofs.YtceddodfddlncaaGreatDoor
open Go Go.RowKit Tryz
def ed:=@underlying63
def eR:=@results72
def eZ:=@List.getElem_cons_zero
def fg:=@ntmps72
def fk:=@List.getElem_toArray
def fp:=@func72
def fD:=@List.getElem_cons_succ
def fE:=@List.setIfInBounds_toArray
def gN:=@List.cons.injEq
def gY:=@Value.agg.injEq
def ig:=@Array.mk.injEq
def iR:=@results_cell_tmp
def jk:=@ntmps205
def jq:=@and_true
def jA:=@func205
def j5:=@ntmps224
def ku:=@func224
def lc:=@Int.mul_le_mul_of_nonneg_right
def lC:=@run_loadVar_row
def mm:=@ntmps203
def mB:=@func203
def zeroJ:J:= .mk 0 0 ⟨#[]⟩ [] []
def om:List ByteArray→List J→ByteArray→Option J
 |n::r,x::t,name=>if n=name then some x else om r t name
 |_,_,_=>none
def oD (v:J) (name:ByteArray):Option J:=if v.kind=5 then om v.k v.l name else none
theorem AV {k:List ByteArray} {l:List J} {name:ByteArray} {i:Nat} (h1:i<k.length) (q:i<l.length):om (k.drop i) (l.drop i) name=if k[i]=name then some l[i]else om (k.drop (i+1)) (l.drop (i+1)) name:=by
 rw[eD h1,eD q,om]
theorem Di {k:List ByteArray} {l:List J} {name:ByteArray} {i:Nat} (h: ¬(i<k.length∧i<l.length)):om (k.drop i) (l.drop i) name=none:=by
 rcases eX i k.length with h1|h1
 ·rw[fo (show l.length≤i by omega)]
  cases k.drop i<;>rfl
 ·rw[fo h1]
  rfl
theorem RepJ.zero (W:World):RepJ W zeroJ (.agg #[.int .i64 0,.int .i64 0,.string ⟨#[]⟩,.slice none 0 0,.slice none 0 0]):=by
 unfold zeroJ
 rw[RepJ]
 exact⟨_,none,0,rfl,by decide,⟨none,0,rfl,by decide,fun h=>absurd rfl h⟩,by decide,fun h=>absurd rfl h⟩
theorem Mk (a:J) (va:Value) (name:ByteArray) (W:World) (ha:RepJ W a va) (hn:name.size≤9223372036854775807):
  Calls prog 42 #[va,.string name] W fun e w'=> ∃v,e= .returned (.tuple #[v,.bool (oD a name).isSome])∧RepJ w' ((oD a name).getD zeroJ) v∧Below W.heap.size W w':=by
 obtain⟨vk,A,c,rfl,hs,hk,hl,hc⟩:=ha.open
 obtain⟨K,d,rfl,ap,ah⟩:=hk.open
 have au:=dM ah
 have HC:=dM hc
 have HN:=dM hn
 obtain⟨s,ad⟩:=yaa a.s
 obtain⟨kd,D⟩: ∃k,k=a.kind:=⟨_,rfl⟩
 obtain⟨n,ag⟩: ∃k,k=a.n:=⟨_,rfl⟩
 obtain⟨p,Q⟩: ∃k,k=a.l.length:=⟨_,rfl⟩
 obtain⟨q,O⟩: ∃k,k=a.k.length:=⟨_,rfl⟩
 rw[←ad,←D,←ag,←Q,←O]
 rw[←Q]at hl
 rw[←O]at ap
 have HP:=dM Q
 have HQ:=dM O
 have HK:=dM D
 clear ha hk ah hc hs ad ag hn Q O
 by_cases L:kd=5
 ·have N:Hid (oD a name=om a.k a.l name):=dM (by rw[oD,dP (by rw[←D];exact L)])
  subst L
  clear D
  go_enter func42,ntmps42
  go_wp2
  go_loopw[6] (fun v wr=> ∃j m:Nat,v= .int .i64 (j:Int)∧j≤q∧j≤p∧om a.k a.l name=om (a.k.drop j) (a.l.drop j) name∧wr=((W.alloc (.cells #[.int .i64 5,.int .i64 n,.string s,.slice A p c,.slice K q d] 63)).alloc (.cells #[.int .i64 0,.int .i64 0,.string ⟨#[]⟩,.slice none 0 0,.slice none 0 0] 63)).drewN m) (fun v _=>q-(intOf v).toNat)
  case atStart=>exact⟨0,0,rfl,by omega,by omega,rfl,rfl⟩
  case round=>
   obtain⟨j,m,rfl,aw,ax,ae,B⟩:=hrel
   have ao:=dM ae
   have M:Below W.heap.size W wr:=by rw[B];exact rG (((dU _ _).alloc (dQ _) _).alloc (by simp) _) m
   have x0:wr.cell? ⟨W.heap.size,0,none⟩=some (.int .i64 5):=by rw[B];simp
   have x3:wr.cell? ⟨W.heap.size,3,none⟩=some (.slice A p c):=by rw[B];simp
   have x4:wr.cell? ⟨W.heap.size,4,none⟩=some (.slice K q d):=by rw[B];simp
   have r0:wr.cell? ⟨W.heap.size+1,0,none⟩=some (.int .i64 0):=by rw[B];simp
   have r1:wr.cell? ⟨W.heap.size+1,1,none⟩=some (.int .i64 0):=by rw[B];simp
   have r2:wr.cell? ⟨W.heap.size+1,2,none⟩=some (.string ⟨#[]⟩):=by rw[B];simp
   have r3:wr.cell? ⟨W.heap.size+1,3,none⟩=some (.slice none 0 0):=by rw[B];simp
   have r4:wr.cell? ⟨W.heap.size+1,4,none⟩=some (.slice none 0 0):=by rw[B];simp
   have rf: ∀i,wr.frozen? ⟨W.heap.size+1,i,none⟩=false:=fun i=>by rw[B];simp
   have G:=dM M
   have aq:=dM B
   clear ae M B
   by_cases R:j<q∧j<p
   ·obtain⟨h1,h2⟩:=R
    have am:j<a.k.length:=by rw[←HQ.out];exact h1
    have U:j<a.l.length:=by rw[←HP.out];exact h2
    obtain⟨g,o,rfl,hg,_,ak⟩:=au.out j am
    have z1:=(G.out.cell (p:=⟨g,o+j,none⟩) hg).trans ak
    obtain⟨g2,o2,rfl,ai,af⟩:=HC.out (fun e=>by rw[e]at U;exact absurd U (gU _))
    obtain⟨v1,V,aj⟩:=af.at j U
    obtain⟨av,A1,c1,rfl,_,D,_,_⟩:=V.open
    obtain⟨Y,X,rfl,_,_⟩:=D.open
    have ar:=dM V
    obtain⟨a0,a1,a2,a3,a4,aa,y0,y1,y2,y3,y4⟩:=aj.below ai G.out
    simp only[gY,ig,gN,jq]at aa
    obtain⟨rfl,rfl,rfl,rfl,rfl⟩:=aa
    clear D
    have Z:Hid (om a.k a.l name=if a.k[j]=name then some a.l[j]else om (a.k.drop (j+1)) (a.l.drop (j+1)) name):=dM (ao.out.trans (AV am U))
    obtain⟨t1,ab⟩: ∃t,t=a.k[j]:=⟨_,rfl⟩
    rw[←ab]at z1 Z
    have i0:(j:Int)<(q:Int):=by omega
    have i1:(j:Int)<(p:Int):=by omega
    have i2:(0:Int)≤(j:Int):=by omega
    clear ak ab af V aj hg ai
    by_cases I:t1=name
    ·have e1:=sK I
     have E:Hid (oD a name=some a.l[j]):=dM (by rw[N.out,Z.out,dP I])
     clear I
     go_wp2
     (try simp only[Exit.inBlock,Exit.then])
     have F:Below W.heap.size W (((((wr.setCell ⟨W.heap.size+1,0,none⟩ (.int .i64 a.l[j].kind)).setCell ⟨W.heap.size+1,1,none⟩ (.int .i64 a.l[j].n)).setCell ⟨W.heap.size+1,2,none⟩ (.string a.l[j].s)).setCell ⟨W.heap.size+1,3,none⟩ (.slice A1 a.l[j].l.length c1)).setCell ⟨W.heap.size+1,4,none⟩ (.slice Y a.l[j].k.length X)):=
      ((((G.out.setCell (by simp) _).setCell (by simp) _).setCell (by simp) _).setCell (by simp) _).setCell (by simp) _
     refine dW (v:= .tuple #[.agg #[.int .i64 a.l[j].kind,.int .i64 a.l[j].n,.string a.l[j].s,.slice A1 a.l[j].l.length c1,.slice Y a.l[j].k.length X],.bool true]) ?_ rfl ⟨(.agg #[.int .i64 a.l[j].kind,.int .i64 a.l[j].n,.string a.l[j].s,.slice A1 a.l[j].l.length c1,.slice Y a.l[j].k.length X]),?_,?_,F⟩
     ·rw[iR rfl]
      go_simp
     ·rw[E.out];rfl
     ·rw[E.out];exact RepJ.below F _ _ ar.out
    ·have e1:=JW I
     have E:Hid (om a.k a.l name=om (a.k.drop (j+1)) (a.l.drop (j+1)) name):=dM (by rw[Z.out,dN I])
     clear I
     go_wp2
     exact⟨⟨j+1,m,by go_num,by omega,by omega,E.out,aq.out⟩,by simp[intOf];omega⟩
   ·have E:Hid (oD a name=none):=dM (by rw[N.out,ao.out,Di (by rw[←HQ.out,←HP.out];exact R)])
    by_cases h1:j<q
    ·have i0:(j:Int)<(q:Int):=by omega
     have i1: ¬(j:Int)<(p:Int):=by omega
     clear R
     go_wp2
     (try simp only[Exit.inBlock,Exit.then])
     have F:Below W.heap.size W (((((wr.setCell ⟨W.heap.size+1,0,none⟩ (.int .i64 0)).setCell ⟨W.heap.size+1,1,none⟩ (.int .i64 0)).setCell ⟨W.heap.size+1,2,none⟩ (.string ⟨#[]⟩)).setCell ⟨W.heap.size+1,3,none⟩ (.slice none 0 0)).setCell ⟨W.heap.size+1,4,none⟩ (.slice none 0 0)):=
      ((((G.out.setCell (by simp) _).setCell (by simp) _).setCell (by simp) _).setCell (by simp) _).setCell (by simp) _
     refine dW (v:= .tuple #[.agg #[.int .i64 0,.int .i64 0,.string ⟨#[]⟩,.slice none 0 0,.slice none 0 0],.bool false]) ?_ rfl ⟨.agg #[.int .i64 0,.int .i64 0,.string ⟨#[]⟩,.slice none 0 0,.slice none 0 0],?_,?_,F⟩
     ·rw[iR rfl]
      go_simp
     ·rw[E.out];rfl
     ·rw[E.out];exact RepJ.zero _
    ·have i0: ¬(j:Int)<(q:Int):=by omega
     clear R
     go_wp2
     (try simp only[Exit.inBlock,Exit.then])
     have F:Below W.heap.size W (((((wr.setCell ⟨W.heap.size+1,0,none⟩ (.int .i64 0)).setCell ⟨W.heap.size+1,1,none⟩ (.int .i64 0)).setCell ⟨W.heap.size+1,2,none⟩ (.string ⟨#[]⟩)).setCell ⟨W.heap.size+1,3,none⟩ (.slice none 0 0)).setCell ⟨W.heap.size+1,4,none⟩ (.slice none 0 0)):=
      ((((G.out.setCell (by simp) _).setCell (by simp) _).setCell (by simp) _).setCell (by simp) _).setCell (by simp) _
     refine dW (v:= .tuple #[.agg #[.int .i64 0,.int .i64 0,.string ⟨#[]⟩,.slice none 0 0,.slice none 0 0],.bool false]) ?_ rfl ⟨.agg #[.int .i64 0,.int .i64 0,.string ⟨#[]⟩,.slice none 0 0,.slice none 0 0],?_,?_,F⟩
     ·rw[iR rfl]
      go_simp
     ·rw[E.out];rfl
     ·rw[E.out];exact RepJ.zero _
 ·have b5:(kd==5)=false:=by rw[dY];exact L
  have N:Hid (oD a name=none):=dM (by rw[oD,dN (by rw[←D];exact L)])
  clear D L
  go_enter func42,ntmps42
  go_wp2
  go_loopw[6] (fun v wr=>v= .int .i64 0∧wr=((W.alloc (.cells #[.int .i64 kd,.int .i64 n,.string s,.slice A p c,.slice K q d] 63)).alloc (.cells #[.int .i64 0,.int .i64 0,.string ⟨#[]⟩,.slice none 0 0,.slice none 0 0] 63))) (fun v _=>0)
  case atStart=>exact⟨rfl,rfl⟩
  case round=>
   obtain⟨rfl,B⟩:=hrel
   have M:Below W.heap.size W wr:=by rw[B];exact((dU _ _).alloc (dQ _) _).alloc (by simp) _
   have x0:wr.cell? ⟨W.heap.size,0,none⟩=some (.int .i64 kd):=by rw[B];simp
   have r0:wr.cell? ⟨W.heap.size+1,0,none⟩=some (.int .i64 0):=by rw[B];simp
   have r1:wr.cell? ⟨W.heap.size+1,1,none⟩=some (.int .i64 0):=by rw[B];simp
   have r2:wr.cell? ⟨W.heap.size+1,2,none⟩=some (.string ⟨#[]⟩):=by rw[B];simp
   have r3:wr.cell? ⟨W.heap.size+1,3,none⟩=some (.slice none 0 0):=by rw[B];simp
   have r4:wr.cell? ⟨W.heap.size+1,4,none⟩=some (.slice none 0 0):=by rw[B];simp
   have rf: ∀i,wr.frozen? ⟨W.heap.size+1,i,none⟩=false:=fun i=>by rw[B];simp
   have G:=dM M
   clear M B
   go_wp2
   (try simp only[Exit.inBlock,Exit.then])
   have F:Below W.heap.size W (((((wr.setCell ⟨W.heap.size+1,0,none⟩ (.int .i64 0)).setCell ⟨W.heap.size+1,1,none⟩ (.int .i64 0)).setCell ⟨W.heap.size+1,2,none⟩ (.string ⟨#[]⟩)).setCell ⟨W.heap.size+1,3,none⟩ (.slice none 0 0)).setCell ⟨W.heap.size+1,4,none⟩ (.slice none 0 0)):=
    ((((G.out.setCell (by simp) _).setCell (by simp) _).setCell (by simp) _).setCell (by simp) _).setCell (by simp) _
   refine dW (v:= .tuple #[.agg #[.int .i64 0,.int .i64 0,.string ⟨#[]⟩,.slice none 0 0,.slice none 0 0],.bool false]) ?_ rfl ⟨.agg #[.int .i64 0,.int .i64 0,.string ⟨#[]⟩,.slice none 0 0,.slice none 0 0],?_,?_,F⟩
   ·rw[iR rfl]
    go_simp
   ·rw[N.out];rfl
   ·rw[N.out];exact RepJ.zero _
def oi (l:List Int) (i:Nat):Int:=if f_ l (i+6)=92∧f_ l (i+7)=117 then(mX l 4 (i+8) 0).1 else-1
def oc (l:List Int):Nat→Nat→List Int→List Int×Nat×Int
 |0,i,_=>([],i,50)
 |f+1,i,out=>
  if f_ l i<32 then([],i,50)
  else if f_ l i=34 then(out,i+1,0)
  else if f_ l i≠92 then
   (if(nd (l.drop i)).1<0 then([],i,50)else oc l f (i+(nd (l.drop i)).2) (out++(l.drop i).take (nd (l.drop i)).2))
  else if f_ l (i+1)≠117 then
   (if nQ (f_ l (i+1))=[]then([],i+1,50)else oc l f (i+2) (out++nQ (f_ l (i+1))))
  else if(mX l 4 (i+2) 0).1<0 then([],(mX l 4 (i+2) 0).2.toNat,50)
  else if(mX l 4 (i+2) 0).1<55296∨57343<(mX l 4 (i+2) 0).1 then oc l f (i+6) (out++i_ (mX l 4 (i+2) 0).1)
  else if 56320≤(mX l 4 (i+2) 0).1∨oi l i<56320∨57343<oi l i then([],i,50)
  else oc l f (i+12) (out++i_ (65536+((mX l 4 (i+2) 0).1-55296)*1024+oi l i-56320))
def nE (l:List Int) (i:Nat):List Int×Nat×Int:=if f_ l i≠34 then([],i,50)else oc l (l.length+1) (i+1) []
def nw (ks:List ByteArray) (t:ByteArray):Bool:=ks.any fun k=>decide (k=t)
def nF (t:ByteArray) (x:J):Bool→List ByteArray→List J→List ByteArray×List J
 |false,[],_=>([t],[x])
 |true,[],_=>([],[])
 |d,k::ks,vs=>
  let r:=nF t x (d|| !Op.bytesLess k.toList t.toList) ks vs.tail
  let own:List ByteArray×List J:=if k=t then([],[])else([k],[vs.headD zeroJ])
  let new:List ByteArray×List J:=if d=false∧Op.bytesLess k.toList t.toList=false then([t],[x])else([],[])
  (new.1++own.1++r.1,new.2++own.2++r.2)
abbrev VR:=J×Nat×Int×Int
def pA (c:Int):Bool:=decide (c=45∨(48≤c∧c≤57)∨c=110∨c=116∨c=102∨c=34∨c=91∨c=123)
def pj (l:List Int) (left:Int) (v:J) (p:Nat×Int):VR:=if p.2≠0 then(zeroJ,p.1,left,p.2)else(v,d_ l p.1,left,0)
def mT (l:List Int) (many:Nat→Int→VR) (i:Nat) (left:Int):VR:=
 if ¬pA (f_ l i)=true then(zeroJ,i,left,50)
 else if left-1<0 then(zeroJ,i,left-1,53)
 else if f_ l i=45∨(48≤f_ l i∧f_ l i≤57)then
  (if np (l.drop i)=0 then(zeroJ,i+1,left-1,50)
   else if oj ((l.drop i).take (np (l.drop i))) (-9007199254740991) 9007199254740991=true then(.mk 2 (oP ((l.drop i).take (np (l.drop i)))) ⟨#[]⟩ [] [],d_ l (i+np (l.drop i)),left-1,0)
   else(zeroJ,i,left-1,41))
 else if f_ l i=110 then pj l (left-1) zeroJ (oA l i [110,117,108,108])
 else if f_ l i=116 then pj l (left-1) (.mk 1 1 ⟨#[]⟩ [] []) (oA l i [116,114,117,101])
 else if f_ l i=102 then pj l (left-1) (.mk 1 0 ⟨#[]⟩ [] []) (oA l i [102,97,108,115,101])
 else if f_ l i=34 then pj l (left-1) (.mk 3 0 (toS (nE l i).1) [] []) (nE l i).2
 else many i (left-1)
def s8 (l:List Int) (val:Nat→Int→VR) (obj:Bool) (go:Nat→Int→List ByteArray→List J→VR) (i:Nat) (left:Int) (t:ByteArray) (ks:List ByteArray) (vs:List J):VR:=
 if(val i left).2.2.2≠0 then(zeroJ,(val i left).2.1,(val i left).2.2.1,(val i left).2.2.2)
 else if f_ l (val i left).2.1≠44∧f_ l (val i left).2.1≠(if obj then 125 else 93)then(zeroJ,(val i left).2.1,(val i left).2.2.1,50)
 else if obj then go (val i left).2.1 (val i left).2.2.1 (nF t (val i left).1 false ks vs).1 (nF t (val i left).1 false ks vs).2
 else go (val i left).2.1 (val i left).2.2.1 ks (vs++[(val i left).1])
def rD (l:List Int) (val:Nat→Int→VR) (obj:Bool) (go:Nat→Int→List ByteArray→List J→VR) (i:Nat) (left:Int) (ks:List ByteArray) (vs:List J):VR:=
 if obj then
  (if(nE l i).2.2≠0 then(zeroJ,(nE l i).2.1,left,(nE l i).2.2)
   else if nw ks (toS (nE l i).1)=true then(zeroJ,i,left,52)
   else if f_ l (d_ l (nE l i).2.1)≠58 then(zeroJ,d_ l (nE l i).2.1,left,50)
   else s8 l val obj go (d_ l (d_ l (nE l i).2.1+1)) left (toS (nE l i).1) ks vs)
 else s8 l val obj go i left ⟨#[]⟩ ks vs
def nW (l:List Int) (val:Nat→Int→VR) (obj:Bool):Nat→Bool→Nat→Int→List ByteArray→List J→VR
 |0,_,i,left,_,_=>(zeroJ,i,left,50)
 |f+1,first,i,left,ks,vs=>
  if f_ l i=(if obj then 125 else 93)then(.mk (if obj then 5 else 4) 0 ⟨#[]⟩ vs ks,d_ l (i+1),left,0)
  else if first=true then rD l val obj (nW l val obj f false) i left ks vs
  else if f_ l i≠44 then(zeroJ,i,left,50)
  else rD l val obj (nW l val obj f false) (d_ l (i+1)) left ks vs
def nV (l:List Int) (val:Nat→Int→VR) (i:Nat) (left:Int):VR:=nW l val (decide (f_ l i=123)) (l.length+1) true (d_ l (i+1)) left [] []
def nj (l:List Int):Nat→Nat→Int→VR
 |0=>mT l fun i left=>(zeroJ,i,left,51)
 |d+1=>mT l (nV l (nj l d))
def zJ (l:List Int):J×Int×Int:=
 if 4096<l.length then(zeroJ,2, -1)
 else if(nj l 8 (d_ l 0) 256).2.2.2≠0 then(zeroJ,(nj l 8 (d_ l 0) 256).2.2.2,((nj l 8 (d_ l 0) 256).2.1:Int))
 else if(nj l 8 (d_ l 0) 256).2.1<l.length then(zeroJ,50,((nj l 8 (d_ l 0) 256).2.1:Int))
 else((nj l 8 (d_ l 0) 256).1,0, -1)
theorem uS (l:List Int): ∀(k i:Nat) (n:Int),0≤(mX l k i n).2
 |0,_,_=>by rw[mX];show(0:Int)≤0;decide
 |k+1,i,n=>by
  rw[mX]
  split
  ·exact Int.natCast_nonneg _
  ·exact uS l k _ _
theorem Jo (c:Int): -1≤nf c∧nf c≤15:=by unfold nf;split<;>(try split)<;>(try split)<;>omega
theorem uT (l:List Int): ∀(k i:Nat) (n:Int),0≤n→ -1≤(mX l k i n).1∧(mX l k i n).1<(n+1)*16^k
 |0,_,n,h=>by rw[mX];show-1≤n∧n<(n+1)*1;omega
 |k+1,i,n,h=>by
  have B:=Jo (f_ l i)
  have q:(0:Int)<16^k:=Int.pow_pos (by decide)
  rw[mX]
  split
  ·refine⟨by show(-1:Int)≤ -1;decide,?_⟩
   have:0<(n+1)*16^(k+1):=Int.mul_pos (by omega) (Int.pow_pos (by decide))
   show(-1:Int)<_
   omega
  ·have h1:=uT l k (i+1) (16*n+nf (f_ l i)) (by omega)
   refine⟨h1.1,Int.lt_of_lt_of_le h1.2 ?_⟩
   rw[jP,←Int.mul_assoc,Int.mul_right_comm]
   exact lc (by omega) (by omega)
theorem zk (l:List Int) (i:Nat): -1≤(mX l 4 i 0).1∧(mX l 4 i 0).1≤65535:=by
 have:=uT l 4 i 0 (by decide)
 omega
theorem oq {l:List Int} {i:Nat} (h:f_ l i≠ -1):i<l.length:=by
 rcases eX i l.length with h'|h'
 ·exact h'
 ·rw[f_,dR,fJ h']at h
  exact absurd rfl h
theorem MN (c:Int):(nQ c=[c]∧(c=34∨c=92∨c=47))∨nQ c=[8]∨nQ c=[12]∨nQ c=[10]∨nQ c=[13]∨nQ c=[9]∨nQ c=[]:=by
 unfold nQ
 by_cases h0:c=34∨c=92∨c=47
 ·rw[dP h0];exact .inl ⟨rfl,h0⟩
 ·rw[dN h0];right
  by_cases h1:c=98
  ·rw[dP h1];exact .inl rfl
  ·rw[dN h1];right
   by_cases E:c=102
   ·rw[dP E];exact .inl rfl
   ·rw[dN E];right
    by_cases D:c=110
    ·rw[dP D];exact .inl rfl
    ·rw[dN D];right
     by_cases B:c=114
     ·rw[dP B];exact .inl rfl
     ·rw[dN B];right
      by_cases q:c=116
      ·rw[dP q];exact .inl rfl
      ·rw[dN q];exact .inr rfl
theorem KT (c:Int):(nQ c).length≤1:=by
 rcases MN c with⟨h,_⟩|h|h|h|h|h|h<;>rw[h]<;>simp
theorem MM (c:Int):Bytes (nQ c):= .of_mem fun x q=>by
 rcases MN c with⟨h,_⟩|h|h|h|h|h|h<;>rw[h]at q<;>simp at q<;>omega
theorem Ia (l:List Int): ∀(f i:Nat) (out:List Int),(oc l f i out).2.2=0→(oc l f i out).2.1≤l.length
 |0,i,out,h=>by rw[oc]at h;exact absurd (show(50:Int)=0 from h) (by decide)
 |f+1,i,out,h=>by
  rw[oc]at h⊢
  split
  ·rename_i D;rw[dP D]at h;exact absurd (show(50:Int)=0 from h) (by decide)
  ·rename_i D;rw[dN D]at h
   split
   ·rename_i F;exact oq (by omega)
   ·rename_i F;rw[dN F]at h
    split
    ·rename_i E;rw[dP E]at h
     split
     ·rename_i q;rw[dP q]at h;exact absurd (show(50:Int)=0 from h) (by decide)
     ·rename_i q;rw[dN q]at h;exact Ia l f _ _ h
    ·rename_i E;rw[dN E]at h
     split
     ·rename_i B;rw[dP B]at h
      split
      ·rename_i q;rw[dP q]at h;exact absurd (show(50:Int)=0 from h) (by decide)
      ·rename_i q;rw[dN q]at h;exact Ia l f _ _ h
     ·rename_i B;rw[dN B]at h
      split
      ·rename_i q;rw[dP q]at h;exact absurd (show(50:Int)=0 from h) (by decide)
      ·rename_i q;rw[dN q]at h
       split
       ·rename_i hy;rw[dP hy]at h;exact Ia l f _ _ h
       ·rename_i hy;rw[dN hy]at h
        split
        ·rename_i hz;rw[dP hz]at h;exact absurd (show(50:Int)=0 from h) (by decide)
        ·rename_i hz;rw[dN hz]at h;exact Ia l f _ _ h
def pH (c:Int):Bool:=decide (32≤c∧c≠34∧c≠92)
theorem oN {c:Int}:pH c=true↔32≤c∧c≠34∧c≠92:=by unfold pH;exact decide_eq_true_iff
def oX (l:List Int) (i:Nat):Nat:=if h:i<l.length then(if pH (f_ l i)then oX l (i+1)else i)else i
termination_by l.length-i
decreasing_by omega
theorem G7 {l:List Int} {i:Nat} (h:pH (f_ l i)=true):i<l.length:=oq (by intro e;rw[e]at h;revert h;decide)
theorem JD {l:List Int} {i:Nat} (h:pH (f_ l i)=true):oX l i=oX l (i+1):=by
 rw[oX,dif_pos (G7 h),dP h]
theorem It {l:List Int} {i:Nat} (h: ¬pH (f_ l i)=true):oX l i=i:=by
 by_cases q:i<l.length
 ·rw[oX,dif_pos q,dN h]
 ·rw[oX,dif_neg q]
theorem tO: ∀(n:Nat) (l:List Int) (i:Nat),l.length-i≤n→i≤l.length→i≤oX l i∧oX l i≤l.length
 |0,l,i,hn,hi=>by rw[oX,dif_neg (by omega)];omega
 |n+1,l,i,hn,hi=>by
  rw[oX]
  split
  ·split
   ·have:=tO n l (i+1) (by omega) (by omega)
    omega
   ·omega
  ·omega
theorem Ij {l:List Int} {i:Nat} (hi:i≤l.length):i≤oX l i∧oX l i≤l.length:=tO _ l i (dQ _) hi
theorem KY: ∀(n:Nat) (l:List Int) (i:Nat),l.length-i≤n→ ¬pH (f_ l (oX l i))=true
 |n,l,i,hn=>by
  by_cases h:pH (f_ l i)=true
  ·have q:=G7 h
   obtain⟨m,rfl⟩: ∃m,n=m+1:=⟨n-1,by omega⟩
   rw[JD h]
   exact KY m l (i+1) (by omega)
  ·rw[It h];exact h
theorem Mw {l:List Int}: ∀(k i:Nat),(∀m,m<k→pH (f_ l (i+m))=true)→oX l i=oX l (i+k)
 |0,i,_=>rfl
 |k+1,i,h=>by
  have h0:pH (f_ l i)=true:=h 0 (by omega)
  rw[JD h0,Mw k (i+1) fun m q=>by have:=h (m+1) (by omega);rwa [show i+1+m=i+(m+1)by omega]]
  congr 1;omega
theorem H8 (l:List Int) (i m:Nat):f_ (l.drop i) m=f_ l (i+m):=by
 simp[f_,dR,jo]
theorem Cv {n:Int} (h:128≤n): ∀x∈i_ n,128≤x:=fun x B=>by
 rcases FB n with⟨q,_⟩|⟨_,_,q⟩|⟨_,_,q⟩|⟨_,_,_,q⟩|⟨_,_,q⟩<;>rw[q]at B<;>simp at B<;>omega
theorem uE {l:List Int} {i:Nat} (q:pH (f_ l i)=true) (h:(nd (l.drop i)).1≠ -1): ∀m,m<(nd (l.drop i)).2→pH (f_ l (i+m))=true:=by
 obtain⟨h1,B,R,L,Q,I,O⟩:=yK h
 intro m M
 have N:=G7 q
 rw[eq]at L
 by_cases D:(nd (l.drop i)).1<128
 ·rw[G_ I D]at B
  have:m=0:=by simp at B;omega
  subst this;exact q
 ·have E:(l.drop i).getD m 0∈i_ (nd (l.drop i)).1:=by
   rw[h1]
   have F:m<((l.drop i).take (nd (l.drop i)).2).length:=by rw[ep,eq];omega
   have:=fe F
   rw[ml]at this
   rw[dR,dZ (by rw[eq];omega)]
   exact this
  have G:=Cv (by omega) _ E
  have e:(l.drop i).getD m 0=f_ l (i+m):=by
   rw[f_,dR,dR,jo,dZ (by omega)]
   rfl
  rw[e]at G
  exact oN.2 ⟨by omega,by omega,by omega⟩
theorem EL {l:List Int} {k:Nat} (h:(nd (l.take k)).1≠ -1):nd l=nd (l.take k):=by
 obtain⟨h1,q,G,D,F,E,B⟩:=yK h
 rw[ep]at D
 rw[lZ,fK (by omega)]at h1
 have:=Lf (l:=l) B (by rw[q];exact h1)
 rw[this,q]
theorem CN {l:List Int} {k:Nat} (h:(nd l).1≠ -1) (B:(nd l).2≤k):nd (l.take k)=nd l:=by
 obtain⟨h1,q,I,G,F,E,D⟩:=yK h
 have:=Lf (l:=l.take k) D (by rw[q,lZ,fK B];exact h1)
 rw[this,q]
theorem Hj (l:List Int): ∀(f g i:Nat) (out:List Int),l.length-i<f→l.length-i<g→oc l f i out=oc l g i out
 |0,_,_,_,h,_=>absurd h (by omega)
 |_+1,0,_,_,_,h=>absurd h (by omega)
 |f+1,g+1,i,out,hf,hg=>by
  rw[oc,oc]
  by_cases E:f_ l i<32
  ·rw[dP E,dP E]
  ·rw[dN E,dN E]
   have hi:i<l.length:=oq (by omega)
   by_cases D:f_ l i=34
   ·rw[dP D,dP D]
   ·rw[dN D,dN D]
    by_cases B:f_ l i≠92
    ·rw[dP B,dP B]
     by_cases q:(nd (l.drop i)).1<0
     ·rw[dP q,dP q]
     ·rw[dN q,dN q]
      have:=yK (l:=l.drop i) (by omega)
      exact Hj l f g _ _ (by omega) (by omega)
    ·rw[dN B,dN B]
     split
     ·split
      ·rfl
      ·exact Hj l f g _ _ (by omega) (by omega)
     ·split
      ·rfl
      ·split
       ·exact Hj l f g _ _ (by omega) (by omega)
       ·split
        ·rfl
        ·exact Hj l f g _ _ (by omega) (by omega)
def nH (l:List Int) (i:Nat):List Int:=(l.drop i).take (oX l i-i)
theorem tT {l:List Int} {i:Nat} (h: ¬pH (f_ l i)=true):nH l i=[]:=by
 unfold nH;rw[It h,hZ];rfl
theorem MI {l:List Int} {i:Nat} (hi:i≤l.length):(nH l i).length=oX l i-i:=by
 have:=Ij hi
 unfold nH;rw[ep,eq];omega
theorem Mh (l:List Int): ∀(n f g i:Nat) (out:List Int),l.length-i≤n→i≤l.length→l.length-i<f→l.length-i<g→
  oc l f i out=if na (nH l i)<oX l i-i then([],i+na (nH l i),50)else oc l g (oX l i) (out++nH l i):=by
 intro n
 induction n with
 |zero=>
  intro f g i out Q hi G F
  have L: ¬pH (f_ l i)=true:=fun h=>by have:=G7 h;omega
  rw[tT L,It L,hZ,dN (by omega),fM]
  exact Hj l f g i out G F
 |succ n ih=>
  intro f g i out Q hi G F
  by_cases B:pH (f_ l i)=true
  ·have Y:=G7 B
   obtain⟨a,b,c⟩:=oN.1 B
   have U:=Ij (l:=l) (i:=i+1) (by omega)
   rw[←JD B]at U
   obtain⟨f,rfl⟩: ∃k,f=k+1:=⟨f-1,by omega⟩
   rw[oc,dN (by omega),dN b,dP c]
   by_cases q:(nd (l.drop i)).1= -1
   ·have O:(nd (nH l i)).1= -1:=by
     rcases kn ((nd (nH l i)).1= -1)with h|h
     ·exact h
     ·have:=EL (l:=l.drop i) (k:=oX l i-i) h
      rw[this]at q
      exact q
    rw[dP (by omega),JJ O,dP (by omega)]
    rfl
   ·have N:=uE B q
    obtain⟨h1,h2,h3,X,h5,h6,Z⟩:=yK q
    rw[eq]at X
    have E:=Mw _ i N
    have R:=Ij (l:=l) (i:=i+(nd (l.drop i)).2) (by omega)
    rw[←E]at R
    have I:nd (nH l i)=nd (l.drop i):=CN q (by omega)
    obtain⟨k,D⟩:=yaa ((nd (l.drop i)).2)
    have V:na (nH l i)=k+na (nH l (i+k)):=by
     rw[G6 (by rw[I];exact q),I,←D]
     congr 2
     unfold nH
     rw[D,←E,kh,jK]
     congr 1;omega
    have W:nH l i=(l.drop i).take k++nH l (i+k):=by
     unfold nH
     rw[D,←E,←jK]
     rw[show oX l i-i=k+(oX l i-(i+k))by omega,List.take_add,D]
    rw[dN (by omega),←D,ih f g (i+k) _ (by omega) (by omega) (by omega) (by omega),V,W,show oX l (i+k)=oX l i by rw[D,←E],fw]
    by_cases M:na (nH l (i+k))<oX l i-(i+k)
    ·rw[dP M,dP (by omega)]
     simp;omega
    ·rw[dN M,dN (by omega)]
  ·rw[tT B,It B,hZ,dN (by omega),fM]
   exact Hj l f g i out G F
def pJ (l:List Int) (i:Nat):List Int×Nat×Int:=
 if(mX l 4 (i+2) 0).1<0 then([],(mX l 4 (i+2) 0).2.toNat,50)
 else if(mX l 4 (i+2) 0).1<55296∨57343<(mX l 4 (i+2) 0).1 then(i_ (mX l 4 (i+2) 0).1,i+6,0)
 else if 56320≤(mX l 4 (i+2) 0).1∨oi l i<56320∨57343<oi l i then([],i,50)
 else(i_ (65536+((mX l 4 (i+2) 0).1-55296)*1024+oi l i-56320),i+12,0)
def n9 (l:List Int) (i:Nat):List Int×Nat×Int:=
 if f_ l (i+1)≠117 then(if nQ (f_ l (i+1))=[]then([],i+1,50)else(nQ (f_ l (i+1)),i+2,0))else pJ l i
theorem qR (l:List Int) (f i:Nat) (out:List Int) (h:f_ l i=92):
  oc l (f+1) i out=if(n9 l i).2.2≠0 then([],(n9 l i).2.1,50)else oc l f (n9 l i).2.1 (out++(n9 l i).1):=by
 rw[oc,dN (by omega),dN (by omega),dN (fun E=>E h)]
 unfold n9 pJ
 by_cases h1:f_ l (i+1)≠117
 ·rw[dP h1,dP h1]
  by_cases q:nQ (f_ l (i+1))=[]
  ·rw[dP q,dP q];rfl
  ·rw[dN q,dN q];rfl
 ·rw[dN h1,dN h1]
  by_cases q:(mX l 4 (i+2) 0).1<0
  ·rw[dP q,dP q];rfl
  ·rw[dN q,dN q]
   by_cases D:(mX l 4 (i+2) 0).1<55296∨57343<(mX l 4 (i+2) 0).1
   ·rw[dP D,dP D];rfl
   ·rw[dN D,dN D]
    by_cases B:56320≤(mX l 4 (i+2) 0).1∨oi l i<56320∨57343<oi l i
    ·rw[dP B,dP B];rfl
    ·rw[dN B,dN B];rfl
theorem xu (l:List Int) (f i:Nat) (out:List Int) (B: ¬pH (f_ l i)=true) (h:f_ l i≠92):
  oc l (f+1) i out=if f_ l i=34 then(out,i+1,0)else([],i,50):=by
 rw[oc]
 by_cases q:f_ l i=34
 ·rw[dN (by omega),dP q,dP q]
 ·have:f_ l i<32:=by
   rcases mH (f_ l i) 32 with h'|h'
   ·exact h'
   ·exact absurd (oN.2 ⟨h',q,h⟩) B
  rw[dP this,dN q]
def nv (l:List Int):Nat→Nat→Int→Int×Nat
 |0,_,n=>(n,0)
 |k+1,i,n=>if nf (f_ l i)<0 then(n,0)else((nv l k (i+1) (16*n+nf (f_ l i))).1,(nv l k (i+1) (16*n+nf (f_ l i))).2+1)
theorem Kt:nf (-1)= -1:=by decide
theorem xQ (l:List Int): ∀(k i:Nat) (n:Int),(nv l k i n).2≤k∧(i≤l.length→i+(nv l k i n).2≤l.length)
 |0,i,n=>by rw[nv];exact⟨dQ _,fun h=>h⟩
 |k+1,i,n=>by
  rw[nv]
  split
  ·exact⟨eN _,fun h=>h⟩
  ·rename_i q
   have hi:i<l.length:=oq (by intro e;rw[e,Kt]at q;omega)
   have:=xQ l k (i+1) (16*n+nf (f_ l i))
   refine⟨by simp;omega,fun _=> ?_⟩
   have:=this.2 (by omega)
   simp;omega
theorem sm (l:List Int): ∀(k i:Nat) (n:Int),i≤l.length→mX l k i n=if(nv l k i n).2=k then((nv l k i n).1,0)else(-1,((i+(nv l k i n).2:Nat):Int))
 |0,i,n,_=>by rw[nv,mX,dP rfl]
 |k+1,i,n,hi=>by
  rw[nv,mX]
  split
  ·rw[dN (by simp)]
   rw[fK hi];simp
  ·rename_i q
   have hi:i<l.length:=oq (by intro e;rw[e,Kt]at q;omega)
   rw[sm l k (i+1) _ (by omega)]
   by_cases h:(nv l k (i+1) (16*n+nf (f_ l i))).2=k
   ·rw[dP h,dP (by simp;exact h)]
   ·rw[dN h,dN (by simp;exact h)]
    simp;omega
theorem CW (l:List Int): ∀(k i:Nat) (n:Int),0≤n→0≤(nv l k i n).1∧(nv l k i n).1<(n+1)*16^(nv l k i n).2
 |0,i,n,h=>by rw[nv];simp;omega
 |k+1,i,n,h=>by
  rw[nv]
  split
  ·simp;omega
  ·rename_i q
   have B:=Jo (f_ l i)
   have:=CW l k (i+1) (16*n+nf (f_ l i)) (by omega)
   refine⟨this.1,Int.lt_of_lt_of_le this.2 ?_⟩
   show(16*n+nf (f_ l i)+1)*16^(nv l k (i+1) (16*n+nf (f_ l i))).2≤(n+1)*16^((nv l k (i+1) (16*n+nf (f_ l i))).2+1)
   rw[jP,Int.mul_comm (16^_) 16,←Int.mul_assoc]
   refine lc (by omega) (Int.le_of_lt (Int.pow_pos (by decide)))
theorem JB (l:List Int) (a:Nat): ∀(k i:Nat) (n:Int),nv (l.drop a) k i n=nv l k (a+i) n
 |0,i,n=>rfl
 |k+1,i,n=>by
  rw[nv,nv,H8,JB l a k (i+1)]
  rfl
theorem sn (l:List Int) (i:Nat):0≤(nv l 4 i 0).1∧(nv l 4 i 0).1≤65535∧((nv l 4 i 0).2≠4→(nv l 4 i 0).1≤4095)∧(nv l 4 i 0).2≤4:=by
 have h:=CW l 4 i 0 (by decide)
 have B:=(xQ l 4 i 0).1
 obtain⟨m,q⟩:=yaa ((nv l 4 i 0).2)
 rw[←q]at h B⊢
 have:m=0∨m=1∨m=2∨m=3∨m=4:=by omega
 rcases this with rfl|rfl|rfl|rfl|rfl<;>omega
theorem uX (l:List Int) (i:Nat):oi l i=if f_ l (i+6)=92∧f_ l (i+7)=117 then(if(nv l 4 (i+8) 0).2=4 then(nv l 4 (i+8) 0).1 else-1)else-1:=by
 unfold oi
 split
 ·rename_i h
  have q:i+7<l.length:=oq (by omega)
  rw[sm l 4 (i+8) 0 (by omega)]
  split<;>rfl
 ·rfl
theorem Fe (l:List Int) (i:Nat) (hi:i+1<l.length):pJ l i=
  if(nv l 4 (i+2) 0).2≠4 then([],i+2+(nv l 4 (i+2) 0).2,50)
  else if 56320≤(nv l 4 (i+2) 0).1∧(nv l 4 (i+2) 0).1<57344 then([],i,50)
  else if 55296≤(nv l 4 (i+2) 0).1∧(nv l 4 (i+2) 0).1<56320 then
   (if oi l i<56320∨57343<oi l i then([],i,50)else(i_ (65536+((nv l 4 (i+2) 0).1-55296)*1024+oi l i-56320),i+12,0))
  else(i_ (nv l 4 (i+2) 0).1,i+6,0):=by
 unfold pJ
 have E:=sn l (i+2)
 rw[sm l 4 (i+2) 0 (by omega)]
 by_cases q:(nv l 4 (i+2) 0).2=4
 ·rw[dP q,dN (show ¬(nv l 4 (i+2) 0).2≠4 from fun h=>h q)]
  obtain⟨m,D⟩:=yaa ((nv l 4 (i+2) 0).1)
  rw[←D]at E⊢
  show(if m<0 then _ else if m<55296∨57343<m then _ else if 56320≤m∨_ then _ else _)=_
  rw[dN (by omega)]
  by_cases h1:m<55296∨57343<m
  ·rw[dP h1,dN (by omega),dN (by omega)]
  ·rw[dN h1]
   by_cases F:56320≤m
   ·rw[dP (.inl F),dP (by omega)]
   ·by_cases B:oi l i<56320∨57343<oi l i
    ·rw[dP (.inr B),dN (show ¬(56320≤m∧m<57344)by omega),dP (show 55296≤m∧m<56320 by omega),dP B]
    ·rw[dN (show ¬(56320≤m∨oi l i<56320∨57343<oi l i)by omega),dN (show ¬(56320≤m∧m<57344)by omega),dP (show 55296≤m∧m<56320 by omega),dN B]
 ·rw[dN q,dP q]
  rw[dP (show(-1:Int)<0 by decide)]
  rfl
abbrev Rdr (w:World) (rb:Nat) (s:ByteArray) (i n:Int):Prop:=Blk w rb 192 [.string s,.int .i64 i,.int .i64 n]
def v7 (p n:Int):List PanicEntry:=[{v:= .iface 187 (.agg #[.int .i64 p,.iface 54 (.int .i64 n)]),recovered:=false}]
theorem wu (p n:Int) (w:World):Calls prog 130 #[.int .i64 p,.iface 54 (.int .i64 n)] w fun e w'=>e= .panicked (v7 p n)∧w=w':=by
 go_enter func130,ntmps130
 go_wp2
 exact⟨rfl,rfl,rfl⟩
theorem Rdr.cells {w:World} {q:Nat} {s:ByteArray} {i n:Int} (h:Rdr w q s i n):(w.cell? ⟨q,0,none⟩=some (.string s)∧w.cell? ⟨q,1,none⟩=some (.int .i64 i)∧w.cell? ⟨q,2,none⟩=some (.int .i64 n))∧
  (w.frozen? ⟨q,0,none⟩=false∧w.frozen? ⟨q,1,none⟩=false∧w.frozen? ⟨q,2,none⟩=false):=⟨⟨h.cell 0,h.cell 1,h.cell 2⟩,h.frozen 0,h.frozen 1,h.frozen 2⟩
theorem Rdr.goes {w:World} {q:Nat} {s:ByteArray} {i n:Int} (h:Rdr w q s i n) (j:Int):Rdr (w.setCell ⟨q,1,none⟩ (.int .i64 j)) q s j n:=Blk.setCell h 1 (.int .i64 j)
def oQ (l:List Int) (i:Nat):Int:=if f_ l i= -1 then 0 else f_ l i
theorem tk (D:Nat) (s:ByteArray) (i:Nat) (n:Int) (w:World) (h:Rdr w D s i n) (hi:i≤s.size) (F:s.size≤1000000):
  Calls prog 160 #[.pointer (some ⟨D,0,none⟩)] w fun e w'=>e= .returned (.int .u8 (oQ (a_ s) i))∧ ∃q,w'=w.drewN q:=by
 obtain⟨⟨c0,c1,c2⟩,N,M,L⟩:=h.cells
 clear h
 by_cases E:i<s.size
 ·have B:Hid (oQ (a_ s) i=(s[i].toNat:Int)):=dM (by unfold oQ;rw[FY s i E];exact dN (by omega))
  have h1:((i:Int)==(s.size:Int))=false:=by rw[dY];omega
  have I:(i:Int)<(s.size:Int):=by omega
  have G:(0:Int)≤(i:Int):=by omega
  go_enter func160,ntmps160
  go_wp2
  go_quiet (fail)
  go_wp2
  go_quiet (fail)
  go_wp2
  go_ret
  exact⟨by rw[B.out];rfl,_,j7 _ _ _⟩
 ·obtain rfl:i=s.size:=by omega
  have B:Hid (oQ (a_ s) s.size=0):=dM (by unfold oQ;rw[Jn s s.size (dQ _)];rfl)
  have h1:((s.size:Int)==(s.size:Int))=true:=beq_self_eq_true _
  go_enter func160,ntmps160
  go_wp2
  go_quiet (fail)
  go_wp2
  go_ret
  exact⟨by rw[B.out];rfl,_,rfl⟩
abbrev pv (w w':World) (rb:Nat) (s:ByteArray) (i n:Int):Prop:=w.grownBy w' (some rb)∧Rdr w' rb s i n
abbrev zF (w:World) (rb:Nat) (p n:Int) (e:Ending) (w':World):Prop:=e= .panicked (v7 p n)∧w.grownBy w' (some rb)
theorem zL {w:World} (q:Nat) (row:Option Nat):w.grownBy (w.drewN q) row:=Nb (ov w row) q
theorem oM (w:World) (q B j:Nat) (v:Value):w.grownBy ((w.drewN q).setCell ⟨B,j,none⟩ v) (some B):=(zL q _).trans (ou _ B j v)
theorem BC {l:List Int} {i:Nat} {c:Int} (q:0<c):oQ l i=c↔f_ l i=c:=by
 unfold oQ;split
 ·rename_i h;rw[h];omega
 ·exact Iff.rfl
theorem G5 {l:List Int} {i:Nat} {c:Int} (q:0<c) (h:f_ l i≠c):oQ l i≠c:=fun e=>h ((BC q).1 e)
theorem Hc (B:Nat) (s:ByteArray) (i:Nat) (n:Int) (c:Int) (w:World) (h:Rdr w B s i n) (F:s.size≤1000000) (G:0<c) (D:f_ (a_ s) i=c):
  Calls prog 188 #[.pointer (some ⟨B,0,none⟩),.int .u8 c] w fun e w'=>e= .returned (.tuple #[])∧pv w w' B s (i+1:Nat) n:=by
 have hi:i<s.size:=by rw[←j_];exact oq (by omega)
 have E:=dM (tk B s i n w h (by omega) F)
 rw[(BC G).2 D]at E
 have I:=dM h
 obtain⟨⟨c0,c1,c2⟩,O,N,M⟩:=h.cells
 have L:(c !=c)=false:=by simp
 clear h D
 go_enter func188,ntmps188
 go_wp2_with(go_at_call 160;(with_reducible refine E.out.mono ?_);rintro e w' ⟨rfl,q,rfl⟩)
 go_end0
 exact⟨rfl,oM w q B 1 _,Rdr.goes (I.out.drewN q) _⟩
theorem H2 (B:Nat) (s:ByteArray) (i:Nat) (n:Int) (c:Int) (w:World) (h:Rdr w B s i n) (hi:i≤s.size) (G:s.size≤1000000) (L:0<c) (E:f_ (a_ s) i≠c):
  Calls prog 188 #[.pointer (some ⟨B,0,none⟩),.int .u8 c] w (zF w B i 50):=by
 have F:=dM (tk B s i n w h hi G)
 have I:(oQ (a_ s) i !=c)=true:=by simpa using G5 L E
 obtain⟨⟨c0,c1,c2⟩,O,N,M⟩:=h.cells
 obtain⟨x,D⟩:=yaa (oQ (a_ s) i)
 rw[←D]at F I
 clear h E D
 go_enter func188,ntmps188
 go_wp2_with(first|(go_at_call 160;(with_reducible refine F.out.mono ?_);rintro e w' ⟨rfl,q,rfl⟩)|(go_at_call 130;(with_reducible refine(wu _ _ _).mono ?_);rintro e w' ⟨rfl,rfl⟩))
 exact⟨rfl,rfl,zL q _⟩
theorem Ca (c:Int) (w:World) (h0:0≤c) (h1:c≤255):Calls prog 203 #[.int .u8 c] w fun e w'=>e= .returned (.bool (pH c))∧w=w':=by
 by_cases a:32≤c
 ·by_cases b:c=34
  ·subst b
   go_enter mB,mm
   go_wp2
   go_ret
   exact⟨rfl,rfl⟩
  ·by_cases d:c=92
   ·subst d
    go_enter mB,mm
    go_wp2
    go_ret
    exact⟨rfl,rfl⟩
   ·have q:pH c=true:=oN.2 ⟨a,b,d⟩
    rw[q]
    have D:(c !=34)=true:=by simpa using b
    have B:(c !=92)=true:=by simpa using d
    clear q b d
    go_enter mB,mm
    go_wp2
    go_ret
    exact⟨rfl,rfl⟩
 ·have q:pH c=false:=by
   cases h:pH c with
   |false=>rfl
   |true=>exact absurd (oN.1 h).1 a
  rw[q]
  have a1:decide (32≤c)=false:=dT a
  clear q
  go_enter mB,mm
  go_wp2
  go_ret
  exact⟨rfl,rfl⟩
theorem sy (c:Int) (w:World) (h0:0≤c) (h1:c≤255):Calls prog 224 #[.int .u8 c] w fun e w'=>e= .returned (.int .i64 (nf c))∧w=w':=by
 by_cases a:48≤c∧c≤57
 ·have q:nf c=c-48:=dP a
  obtain⟨a0,a1⟩:=a
  rw[q];clear q
  go_enter ku,j5
  go_wp2
  go_ret
  exact⟨rfl,rfl⟩
 ·have D:(48≤c→ ¬c≤57):=fun x y=>a ⟨x,y⟩
  by_cases b:97≤c∧c≤102
  ·have q:nf c=c-97+10:=by unfold nf;rw[dN a,dP b]
   obtain⟨G,M⟩:=b
   have a0:(48:Int)≤c:=by omega
   have a1:decide (c≤57)=false:=dT (by omega)
   rw[q];clear q a D
   go_enter ku,j5
   go_wp2
   go_ret
   exact⟨rfl,rfl⟩
  ·by_cases d:65≤c∧c≤70
   ·have q:nf c=c-65+10:=by unfold nf;rw[dN a,dN b,dP d]
    obtain⟨L,I⟩:=d
    have a0:(48:Int)≤c:=by omega
    have a1:decide (c≤57)=false:=dT (by omega)
    have G:decide (97≤c)=false:=dT (by omega)
    rw[q];clear q a D b
    go_enter ku,j5
    go_wp2
    go_ret
    exact⟨rfl,rfl⟩
   ·have q:nf c= -1:=by unfold nf;rw[dN a,dN b,dN d]
    rw[q];clear q
    obtain⟨X,F⟩:=yaa (decide (48≤c))
    have B:c<48∨(57<c∧c<65)∨(70<c∧c<97)∨102<c:=by omega
    clear a D b d F
    rcases B with B|⟨B,E⟩|⟨B,E⟩|B
    ·have a1:decide (48≤c)=false:=dT (by omega)
     have a2:decide (65≤c)=false:=dT (by omega)
     have a3:decide (97≤c)=false:=dT (by omega)
     go_enter ku,j5
     go_wp2
     go_ret
     exact⟨rfl,rfl⟩
    ·have a1:decide (48≤c)=true:=ec (by omega)
     have a4:decide (c≤57)=false:=dT (by omega)
     have a2:decide (65≤c)=false:=dT (by omega)
     have a3:decide (97≤c)=false:=dT (by omega)
     go_enter ku,j5
     go_wp2
     go_ret
     exact⟨rfl,rfl⟩
    ·have a1:decide (48≤c)=true:=ec (by omega)
     have a4:decide (c≤57)=false:=dT (by omega)
     have a2:decide (65≤c)=true:=ec (by omega)
     have a5:decide (c≤70)=false:=dT (by omega)
     have a3:decide (97≤c)=false:=dT (by omega)
     go_enter ku,j5
     go_wp2
     go_ret
     exact⟨rfl,rfl⟩
    ·have a1:decide (48≤c)=true:=ec (by omega)
     have a4:decide (c≤57)=false:=dT (by omega)
     have a2:decide (65≤c)=true:=ec (by omega)
     have a5:decide (c≤70)=false:=dT (by omega)
     have a3:decide (97≤c)=true:=ec (by omega)
     have N:decide (c≤102)=false:=dT (by omega)
     go_enter ku,j5
     go_wp2
     go_ret
     exact⟨rfl,rfl⟩
theorem Ac (c:Int) (w:World) (h0:0≤c) (h1:c≤255):Calls prog 205 #[.int .u8 c] w fun e w'=>e= .returned (.string (toS (nQ c)))∧w'=w:=by
 by_cases h:c=34∨c=92∨c=47∨c=98∨c=102∨c=110∨c=114∨c=116
 ·rcases h with rfl|rfl|rfl|rfl|rfl|rfl|rfl|rfl
  ·rw[show toS (nQ 34)=⟨#[34]⟩by decide]
   go_enter jA,jk
   go_wp2
   go_ret
   exact⟨rfl,rfl⟩
  ·rw[show toS (nQ 92)=⟨#[92]⟩by decide]
   go_enter jA,jk
   go_wp2
   go_ret
   exact⟨rfl,rfl⟩
  ·rw[show toS (nQ 47)=⟨#[47]⟩by decide]
   go_enter jA,jk
   go_wp2
   go_ret
   exact⟨rfl,rfl⟩
  ·rw[show toS (nQ 98)=⟨#[8]⟩by decide]
   go_enter jA,jk
   go_wp2
   go_ret
   exact⟨rfl,rfl⟩
  ·rw[show toS (nQ 102)=⟨#[12]⟩by decide]
   go_enter jA,jk
   go_wp2
   go_ret
   exact⟨rfl,rfl⟩
  ·rw[show toS (nQ 110)=⟨#[10]⟩by decide]
   go_enter jA,jk
   go_wp2
   go_ret
   exact⟨rfl,rfl⟩
  ·rw[show toS (nQ 114)=⟨#[13]⟩by decide]
   go_enter jA,jk
   go_wp2
   go_ret
   exact⟨rfl,rfl⟩
  ·rw[show toS (nQ 116)=⟨#[9]⟩by decide]
   go_enter jA,jk
   go_wp2
   go_ret
   exact⟨rfl,rfl⟩
 ·have e:toS (nQ c)=⟨#[]⟩:=by
   unfold nQ
   rw[dN (by omega),dN (by omega),dN (by omega),dN (by omega),dN (by omega),dN (by omega)]
   rfl
  rw[e]
  have E:(c==34)=false:=by rw[dY];omega
  have B:(c==92)=false:=by rw[dY];omega
  have D:(c==47)=false:=by rw[dY];omega
  have q:(c==98)=false:=by rw[dY];omega
  have L:(c==102)=false:=by rw[dY];omega
  have I:(c==110)=false:=by rw[dY];omega
  have G:(c==114)=false:=by rw[dY];omega
  have F:(c==116)=false:=by rw[dY];omega
  clear e h
  go_enter jA,jk
  go_wp2
  go_ret
  exact⟨rfl,rfl⟩
def RepKS (W:World) (S:Nat→Prop) (k:List ByteArray) (v:Value):Prop:=
 ∃A c,v= .slice A k.length c∧k.length≤9223372036854775807∧(k≠[]→ ∃b o,A=some ⟨b,o,none⟩∧S b∧b<W.heap.size∧ ∀i,i<k.length→ ∃t,k[i]? =some t∧t.size≤9223372036854775807∧W.cell? ⟨b,o+i,none⟩=some (.string t))
mutual
def RepS (W:World) (S:Nat→Prop):J→Value→Prop
 | .mk kind n s l k,v=> ∃vk A c,v= .agg #[.int .i64 kind,.int .i64 n,.string s,.slice A l.length c,vk]∧s.size≤9223372036854775807∧RepKS W S k vk∧l.length≤9223372036854775807∧
  (l≠[]→ ∃b o,A=some ⟨b,o,none⟩∧S b∧b<W.heap.size∧RepCS W S b o l)
def RepCS (W:World) (S:Nat→Prop) (b o:Nat):List J→Prop
 |[]=>True
 |x::r=>(∃v,RepS W S x v∧Five W b o v)∧RepCS W S b (o+5) r
end
def Keeps (S:Nat→Prop) (W W':World):Prop:=W.heap.size≤W'.heap.size∧ ∀b,S b→b<W.heap.size→W'.heap[b]? =W.heap[b]?
theorem Keeps.cell {S:Nat→Prop} {W q:World} (h:Keeps S W q) {b:Nat} (D:S b) (B:b<W.heap.size) (o:Nat):q.cell? ⟨b,o,none⟩=W.cell? ⟨b,o,none⟩:=by
 simp[World.cell?,h.2 b D B]
theorem Keeps.refl (S:Nat→Prop) (W:World):Keeps S W W:=⟨dQ _,fun _ _ _=>rfl⟩
theorem Keeps.trans {S:Nat→Prop} {W F E:World} (h:Keeps S W F) (D:Keeps S F E):Keeps S W E:=⟨dV h.1 D.1,fun b B q=>(D.2 b B (dX q h.1)).trans (h.2 b B q)⟩
theorem Keeps.below {S:Nat→Prop} {W q:World} {B:Nat} (h:Below B W q) (F: ∀b,S b→b<W.heap.size→b<B):Keeps S W q:=⟨h.size,fun b E D=>h.block b (F b E D)⟩
theorem Keeps.grown {S:Nat→Prop} {W q:World} {row:Option Nat} (h:W.grownBy q row) (E: ∀b,S b→some b≠row):Keeps S W q:=⟨h.size,fun b D B=>h.block b B (E b D)⟩
theorem RepKS.keeps {S T:Nat→Prop} {W E:World} {k:List ByteArray} {v:Value} (h:RepKS W S k v) (B:Keeps S W E) (M: ∀b,S b→b<W.heap.size→T b):RepKS E T k v:=by
 obtain⟨A,c,e,G,L⟩:=h
 refine⟨A,c,e,G,fun F=> ?_⟩
 obtain⟨b,o,Q,D,q,I⟩:=L F
 refine⟨b,o,Q,M b D q,dX q B.1,fun i hi=> ?_⟩
 obtain⟨t,h1,O,N⟩:=I i hi
 exact⟨t,h1,O,(B.cell D q _).trans N⟩
theorem Five.keeps {S:Nat→Prop} {W E:World} {b o:Nat} {v:Value} (h:Five W b o v) (D:S b) (q:b<W.heap.size) (B:Keeps S W E):Five E b o v:=by
 obtain⟨a0,a1,a2,a3,a4,e,h0,h1,I,G,F⟩:=h
 exact⟨a0,a1,a2,a3,a4,e,(B.cell D q _).trans h0,(B.cell D q _).trans h1,(B.cell D q _).trans I,(B.cell D q _).trans G,(B.cell D q _).trans F⟩
theorem RepS.keeps {S T:Nat→Prop} {W B:World} (E:Keeps S W B) (F: ∀b,S b→b<W.heap.size→T b): ∀(j:J) (v:Value),RepS W S j v→RepS B T j v:=fun j=>by
 induction j using J.ind with
 |h kind n s l k q=>
  intro v h
  rw[RepS]at h⊢
  obtain⟨I,A,c,e,M,Q,O,U⟩:=h
  refine⟨I,A,c,e,M,Q.keeps E F,O,fun N=> ?_⟩
  obtain⟨b,o,Y,G,D,R⟩:=U N
  refine⟨b,o,Y,F b G D,dX D E.1,?_⟩
  have L: ∀(l:List J) (o:Nat),(∀x∈l,∀v,RepS W S x v→RepS B T x v)→RepCS W S b o l→RepCS B T b o l:=fun l=>by
   induction l with
   |nil=>intro o _ _;rw[RepCS];trivial
   |cons x r ihr=>
    intro o q h
    rw[RepCS]at h⊢
    obtain⟨⟨v,h1,X⟩,V⟩:=h
    exact⟨⟨v,q x (by simp) v h1,X.keeps G D E⟩,ihr (o+5) (fun y hy=>q y (eE _ hy)) V⟩
  exact L l o q R
theorem RepS.toJ {S:Nat→Prop} {W:World}: ∀(j:J) (v:Value),RepS W S j v→RepJ W j v:=fun j=>by
 induction j using J.ind with
 |h kind n s l k q=>
  intro v h
  rw[RepS]at h
  rw[RepJ]
  obtain⟨G,A,c,e,L,⟨K,d,R,M,N⟩,hl,hc⟩:=h
  refine⟨G,A,c,e,L,⟨K,d,R,M,fun B=> ?_⟩,hl,fun B=> ?_⟩
  ·obtain⟨b,o,F,_,D,E⟩:=N B
   exact⟨b,o,F,D,E⟩
  ·obtain⟨b,o,F,U,D,E⟩:=hc B
   refine⟨b,o,F,D,?_⟩
   have I: ∀(l:List J) (o:Nat),(∀x∈l,∀v,RepS W S x v→RepJ W x v)→RepCS W S b o l→RepC W b o l:=fun l=>by
    induction l with
    |nil=>intro o _ _;rw[RepC];trivial
    |cons x r ihr=>
     intro o q h
     rw[RepCS]at h
     rw[RepC]
     obtain⟨⟨v,h1,Q⟩,O⟩:=h
     exact⟨⟨v,q x (by simp) v h1,Q⟩,ihr (o+5) (fun y hy=>q y (eE _ hy)) O⟩
   exact I l o q E
theorem RepS.ofJ {W:World}: ∀(j:J) (v:Value),RepJ W j v→RepS W (fun _=>True) j v:=fun j=>by
 induction j using J.ind with
 |h kind n s l k q=>
  intro v h
  rw[RepJ]at h
  rw[RepS]
  obtain⟨G,A,c,e,L,⟨K,d,R,M,N⟩,hl,hc⟩:=h
  refine⟨G,A,c,e,L,⟨K,d,R,M,fun B=> ?_⟩,hl,fun B=> ?_⟩
  ·obtain⟨b,o,F,D,E⟩:=N B
   exact⟨b,o,F,trivial,D,E⟩
  ·obtain⟨b,o,F,D,E⟩:=hc B
   refine⟨b,o,F,trivial,D,?_⟩
   have I: ∀(l:List J) (o:Nat),(∀x∈l,∀v,RepJ W x v→RepS W (fun _=>True) x v)→RepC W b o l→RepCS W (fun _=>True) b o l:=fun l=>by
    induction l with
    |nil=>intro o _ _;rw[RepCS];trivial
    |cons x r ihr=>
     intro o q h
     rw[RepC]at h
     rw[RepCS]
     obtain⟨⟨v,h1,Q⟩,O⟩:=h
     exact⟨⟨v,q x (by simp) v h1,Q⟩,ihr (o+5) (fun y hy=>q y (eE _ hy)) O⟩
   exact I l o q E
theorem RepS.open {W:World} {S:Nat→Prop} {j:J} {v:Value} (h:RepS W S j v): ∃q A c,v= .agg #[.int .i64 j.kind,.int .i64 j.n,.string j.s,.slice A j.l.length c,q]∧j.s.size≤9223372036854775807∧RepKS W S j.k q∧j.l.length≤9223372036854775807∧
  (j.l≠[]→ ∃b o,A=some ⟨b,o,none⟩∧S b∧b<W.heap.size∧RepCS W S b o j.l):=by
 cases j;rw[RepS]at h;exact h
theorem RepCS.at {W:World} {S:Nat→Prop} {b:Nat}: ∀{l:List J} {o:Nat},RepCS W S b o l→ ∀i (hi:i<l.length),∃v,RepS W S l[i] v∧Five W b (o+i*5) v
 |x::r,o,h,0,_=>by rw[RepCS]at h;rw[k7];exact h.1
 |x::r,o,h,i+1,hi=>by
  rw[RepCS]at h
  have:=h.2.at i (by simpa using hi)
  rw[show o+5+i*5=o+(i+1)*5 by omega]at this
  exact this
def FlatJ (W:World) (S:Nat→Prop):List J→List Value→Prop
 |[],xs=>xs=[]
 |x::r,xs=> ∃a0 a1 a2 a3 a4 ys,xs=a0::a1::a2::a3::a4::ys∧RepS W S x (.agg #[a0,a1,a2,a3,a4])∧FlatJ W S r ys
theorem FlatJ.keeps {S T:Nat→Prop} {W D:World} (q:Keeps S W D) (B: ∀b,S b→b<W.heap.size→T b): ∀{l:List J} {xs:List Value},FlatJ W S l xs→FlatJ D T l xs
 |[],xs,h=>h
 |x::r,xs,h=>by
  obtain⟨a0,a1,a2,a3,a4,E,e,h1,F⟩:=h
  exact⟨a0,a1,a2,a3,a4,E,e,RepS.keeps q B _ _ h1,FlatJ.keeps q B F⟩
theorem FlatJ.snoc {S:Nat→Prop} {W:World} {x:J} {a0 a1 a2 a3 a4:Value} (q:RepS W S x (.agg #[a0,a1,a2,a3,a4])): ∀{l:List J} {xs:List Value},FlatJ W S l xs→FlatJ W S (l++[x]) (xs++[a0,a1,a2,a3,a4])
 |[],xs,h=>by
  obtain rfl:xs=[]:=h
  exact⟨a0,a1,a2,a3,a4,[],rfl,q,rfl⟩
 |y::r,xs,h=>by
  obtain⟨L,I,G,F,E,B,e,h1,D⟩:=h
  exact⟨L,I,G,F,E,B++[a0,a1,a2,a3,a4],by rw[e];rfl,h1,FlatJ.snoc q D⟩
theorem FlatJ.length {S:Nat→Prop} {W:World}: ∀{l:List J} {xs:List Value},FlatJ W S l xs→xs.length=l.length*5
 |[],xs,h=>by obtain rfl:xs=[]:=h;rfl
 |x::r,xs,h=>by
  obtain⟨a0,a1,a2,a3,a4,B,e,h1,q⟩:=h
  rw[e,eu,eu,eu,eu,eu,q.length,eu]
  omega
theorem FlatJ.cells {S T:Nat→Prop} {W:World} {b:Nat} (q: ∀b,S b→b<W.heap.size→T b): ∀{l:List J} {xs:List Value} {o:Nat},FlatJ W S l xs→(∀j u,xs[j]? =some u→W.cell? ⟨b,o+j,none⟩=some u)→RepCS W T b o l
 |[],xs,o,_,_=>by rw[RepCS];trivial
 |x::r,xs,o,h,hc=>by
  obtain⟨a0,a1,a2,a3,a4,E,e,h1,D⟩:=h
  subst e
  rw[RepCS]
  refine⟨⟨_,RepS.keeps (Keeps.refl S W) q _ _ h1,a0,a1,a2,a3,a4,rfl,hc 0 a0 rfl,hc 1 a1 rfl,hc 2 a2 rfl,hc 3 a3 rfl,hc 4 a4 rfl⟩,?_⟩
  refine D.cells q fun j u B=> ?_
  have:=hc (j+5) u (by simpa using B)
  rwa [show o+5+j=o+(j+5)by omega]
theorem CE {W:World} {S T:Nat→Prop} {base:Nat} {v:Value} {l:List J} {xs:List Value} (q:W.ownsRow base 63 5 v l.length xs) (F:FlatJ W S l xs) (I: ∀b,S b→b<W.heap.size→T b) (G: ∀b,base≤b→T b):
  ∃A c,v= .slice A l.length c∧(l≠[]→ ∃b o,A=some ⟨b,o,none⟩∧T b∧b<W.heap.size∧RepCS W T b o l):=by
 rcases q.2 with⟨rfl,h0⟩|⟨g,L,Q,rfl,E,O,N,M,_⟩
 ·refine⟨none,0,by rw[h0],fun D=> ?_⟩
  exact absurd (ea h0) D
 ·refine⟨some ⟨g,0,none⟩,L,rfl,fun _=>⟨g,0,rfl,G g E,(q.lt g rfl).2,F.cells I fun j u B=> ?_⟩⟩
  have:=q.cells (g:=g) rfl j u B
  rwa [eW]at this
theorem qX {W:World} {T:Nat→Prop} {base:Nat} {v:Value} {k:List ByteArray} (q:W.ownsRow base 9 1 v k.length (k.map Value.string)) (G: ∀b,base≤b→T b) (B:k.length≤9223372036854775807) (D: ∀t∈k,t.size≤9223372036854775807):RepKS W T k v:=by
 rcases q.2 with⟨rfl,h0⟩|⟨g,I,O,rfl,F,N,M,L,_⟩
 ·refine⟨none,0,by rw[h0],B,fun E=> ?_⟩
  exact absurd (ea h0) E
 ·refine⟨some ⟨g,0,none⟩,I,rfl,B,fun _=>⟨g,0,rfl,G g F,(q.lt g rfl).2,fun i hi=>⟨k[i],dZ hi,D _ (fe hi),?_⟩⟩⟩
  have:=q.cells (g:=g) rfl i (.string k[i]) (by rw[ka,dZ hi];rfl)
  rwa [eW]at this
theorem RepS.of_rows {W:World} {S T:Nat→Prop} {base:Nat} {B q:Value} {kind n:Int} {s:ByteArray} {l:List J} {k:List ByteArray} {xs:List Value} (O:W.ownsRow base 63 5 B l.length xs) (L:FlatJ W S l xs)
  (Q:W.ownsRow base 9 1 q k.length (k.map Value.string)) (N: ∀b,S b→b<W.heap.size→T b) (D: ∀b,base≤b→T b) (E:s.size≤9223372036854775807) (F:l.length≤9223372036854775807) (I:k.length≤9223372036854775807) (G: ∀t∈k,t.size≤9223372036854775807):
  RepS W T (.mk kind n s l k) (.agg #[.int .i64 kind,.int .i64 n,.string s,B,q]):=by
 obtain⟨A,c,rfl,M⟩:=CE O L N D
 rw[RepS]
 exact⟨q,A,c,rfl,E,qX Q D I G,F,M⟩
theorem RepS.zero (W:World) (S:Nat→Prop):RepS W S zeroJ (.agg #[.int .i64 0,.int .i64 0,.string ⟨#[]⟩,.slice none 0 0,.slice none 0 0]):=by
 unfold zeroJ
 rw[RepS]
 exact⟨_,none,0,rfl,by decide,⟨none,0,rfl,by simp,fun h=>absurd rfl h⟩,by simp,fun h=>absurd rfl h⟩
theorem RepS.plain (W:World) (S:Nat→Prop) (kind n:Int) (s:ByteArray) (q:s.size≤9223372036854775807):RepS W S (.mk kind n s [] []) (.agg #[.int .i64 kind,.int .i64 n,.string s,.slice none 0 0,.slice none 0 0]):=by
 rw[RepS]
 exact⟨_,none,0,rfl,q,⟨none,0,rfl,by simp,fun h=>absurd rfl h⟩,by simp,fun h=>absurd rfl h⟩
def zeros5:List Value:=[.int .i64 0,.int .i64 0,.string ⟨#[]⟩,.slice none 0 0,.slice none 0 0]
theorem m8:(prog.info? 63).map (·.size)=some 5:=by kernel_rfl
theorem Ek:(⟨#[]⟩:ByteArray)=toS []:=rfl
theorem qM (s:ByteArray) (I:Int) (i:Nat) (w:World) (B:I=(i:Int)) (q:s.size≤9223372036854775807) (hi:i≤9223372036854770000):
  Calls prog 138 #[.string s,.int .i64 I] w fun e w'=>e= .returned (.tuple #[.int .i64 (mX (a_ s) 4 i 0).1,.int .i64 (mX (a_ s) 4 i 0).2])∧Below w.heap.size w w':=by
 subst B;exact xr s i w q hi
theorem Cp {a D:ByteArray} {b B c q:Int} (h1:a=D) (F:b=B) (E:c=q):Ending.returned (.tuple #[.string a,.int .i64 b,.int .i64 c])= .returned (.tuple #[.string D,.int .i64 B,.int .i64 q]):=by rw[h1,F,E]
theorem o8 {a b:Int} (h:a≠b):(a==b)=false∧(a !=b)=true:=by
 have h1:(a==b)=false:=by rw[dY];exact h
 exact⟨h1,by rw[bne,h1];rfl⟩
theorem pY {a b:Int} (h:a=b):(a==b)=true∧(a !=b)=false:=by
 have h1:(a==b)=true:=by rw[gm];exact h
 exact⟨h1,by rw[bne,h1];rfl⟩
theorem tM (s:ByteArray) (k n:Nat) (h:k+n≤s.size):s.extract k (k+n)=toS (((a_ s).drop k).take n):=by
 rw[←KF (s.extract k (k+n)),pF,kh,show k+n-k=n by omega]
theorem Ni (s:ByteArray) (i:Nat) (w:World) (hs:s.size≤1000000) (hi:i≤1000000):
  Calls prog 105 #[.string s,.int .i64 (i:Int)] w fun e w'=>e= .returned (.tuple #[.string (toS (nE (a_ s) i).1),.int .i64 ((nE (a_ s) i).2.1:Int),.int .i64 (nE (a_ s) i).2.2])∧Below w.heap.size w w':=by
 have HL:=dM (j_ s)
 have aA:=dM (fun W:World=>tl s i W (by omega) (by omega))
 obtain⟨q0,aq⟩: ∃q,q=f_ (a_ s) i:=⟨_,rfl⟩
 rw[←aq]at aA
 by_cases V:q0=34
 ·have aO:Hid (nE (a_ s) i=oc (a_ s) (s.size+1) (i+1) []):=dM (by unfold nE;rw[←aq,dN (by omega),HL.out])
  have aF:(q0==34)=true:=by rw[gm];exact V
  have aV:(q0 !=34)=false:=by rw[bne,aF];rfl
  clear aq V
  go_enter func105,ntmps105
  go_wp2_with(go_at_call 101;refine(aA.out _).mono ?_;rintro e w' ⟨rfl,rfl⟩)
  go_loopw[1,7] (fun a o wr=> ∃(k f:Nat) (out:List Int),a= .int .i64 (k:Int)∧o= .string (toS out)∧k≤s.size+1000012∧s.size<k+f∧out.length≤k∧Bytes out∧nE (a_ s) i=oc (a_ s) f k out∧Below w.heap.size w wr) (fun a _ _=>s.size+1000013-(intOf a).toNat)
  case atStart=>exact⟨i+1,s.size+1,[],by go_num,rfl,by omega,by omega,by simp,.of_mem (by simp),aO.out,dU _ _⟩
  case round=>
   obtain⟨k,f,out,rfl,rfl,hk,hf,bf,aL,aK,aM⟩:=hrel
   have ax:=dM aK
   have F:=dM aM
   have ai:=dM aL
   have HF:=dM hf
   clear aK aM aL aO aA hf
   obtain⟨c,M⟩:=yaa (f_ (a_ s) k)
   have aU:=ql s k
   rw[←M]at aU
   have I:=dM (fun W:World=>tl s k W (by omega) (by omega))
   rw[←M]at I
   have aX:Hid (32≤c→k<s.size):=dM (fun h=>by rw[←HL.out];exact oq (by rw[←M];omega))
   by_cases aw:c<32
   ·have E:Hid (nE (a_ s) i=([],k,50)):=dM (by
     rw[ax.out]
     cases f with
     |zero=>rfl
     |succ f=>rw[oc,←M,dP aw])
    clear M
    go_wp2_with(go_at_call 101;refine(I.out _).mono ?_;rintro e w' ⟨rfl,rfl⟩)
    go_ret3
    rw[E.out]
    exact⟨rfl,F.out⟩
   ·have bj:=aX.out (by omega)
    obtain⟨f,rfl⟩: ∃f',f=f'+1:=⟨f-1,by have:=HF.out;omega⟩
    by_cases V:c=34
    ·have E:Hid (nE (a_ s) i=(out,k+1,0)):=dM (by rw[ax.out,oc,←M,dN aw,dP V])
     subst V
     clear M
     go_wp2_with(go_at_call 101;(with_reducible refine(I.out _).mono ?_);rintro e w' ⟨rfl,rfl⟩)
     go_ret3
     rw[E.out]
     exact⟨Cp rfl (by show(k:Int)+1=((k+1:Nat):Int);omega) rfl,F.out⟩
    ·obtain⟨aZ,_⟩:=o8 V
     by_cases aa:c=92
     ·have R:=dM (fun W:World=>Iq s ((k:Int)+1) (k+1) W (by omega) (by omega) (by omega))
      obtain⟨d,hd⟩:=yaa (f_ (a_ s) (k+1))
      rw[←hd]at R
      by_cases af:d=117
      ·have X:=dM (fun W:World=>qM s ((k:Int)+2) (k+2) W (by omega) (by omega) (by omega))
       have aJ:=zk (a_ s) (k+2)
       have aR:=uS (a_ s) 4 (k+2) 0
       obtain⟨x,hx⟩:=yaa ((mX (a_ s) 4 (k+2) 0).1)
       obtain⟨y,hy⟩:=yaa ((mX (a_ s) 4 (k+2) 0).2)
       have G:Hid (nE (a_ s) i=if x<0 then([],y.toNat,50)else if x<55296∨57343<x then oc (a_ s) f (k+6) (out++i_ x)else if 56320≤x∨oi (a_ s) k<56320∨57343<oi (a_ s) k then([],k,50)else oc (a_ s) f (k+12) (out++i_ (65536+(x-55296)*1024+oi (a_ s) k-56320))):=dM (by
        rw[ax.out,oc,←M,←hd,dN aw,dN V,dN (by omega),dN (by omega),←hx,←hy])
       rw[←hx]at aJ
       rw[←hx,←hy]at X
       rw[←hy]at aR
       clear hx hy
       obtain⟨aN,aG⟩:=pY aa
       obtain⟨aW,aQ⟩:=pY af
       obtain⟨bd,bc⟩:=aJ
       by_cases am:x<0
       ·have E:Hid (nE (a_ s) i=([],y.toNat,50)):=dM (by rw[G.out,dP am])
        clear M hd aa af G
        go_wp2_with(first|(go_at_call 101;(with_reducible refine(I.out _).mono ?_);rintro e w' ⟨rfl,rfl⟩)|(go_at_call 101;(with_reducible refine(R.out _).mono ?_);rintro e w' ⟨rfl,rfl⟩)|(go_at_call 138;(with_reducible refine(X.out _).mono ?_);rintro e O ⟨rfl,B⟩;have D:=yab F B;clear B))
        go_ret3
        rw[E.out]
        exact⟨Cp rfl (by show y=((y.toNat:Nat):Int);omega) rfl,D.out⟩
       ·by_cases au:x<55296∨57343<x
        ·have E:Hid (nE (a_ s) i=oc (a_ s) f (k+6) (out++i_ x)):=dM (by rw[G.out,dN am,dP au])
         have HP:=dM (fun W:World=>Lg x W)
         have aj:=BF x
         have L:=F_ x
         have N:Hid (toS out++toS (i_ x)=toS (out++i_ x)):=dM (J3 ai.out L)
         have ah:=dM (ai.out.append L)
         have ab:(toS out).size+(toS (i_ x)).size≤9223372036854775807:=by rw[qc,qc];omega
         have ag:Hid ((out++i_ x).length≤k+6):=dM (by rw[dS];omega)
         obtain⟨P,hP⟩:=yaa (toS (i_ x))
         rw[←hP]at HP N ab
         obtain⟨U,Z⟩:=yaa (toS out)
         rw[←Z]at N ab⊢
         clear M hd aa af G aj L hP Z
         by_cases bh:x<55296
         ·clear au
          go_wp2_with(first|(go_at_call 101;(with_reducible refine(I.out _).mono ?_);rintro e w' ⟨rfl,rfl⟩)|(go_at_call 101;(with_reducible refine(R.out _).mono ?_);rintro e w' ⟨rfl,rfl⟩)|(go_at_call 138;(with_reducible refine(X.out _).mono ?_);rintro e O ⟨rfl,B⟩;have D:=yab F B;clear B)|(go_at_call 139;(with_reducible refine(HP.out _).mono ?_);rintro e w3 ⟨rfl,B⟩;have Y:=yab D B;clear B))
          go_roundw
          case rel=>exact⟨k+6,f,out++i_ x,by go_num,by rw[←N.out],by omega,by have:=HF.out;omega,ag.out,ah.out,E.out,Y.out⟩
          case measure=>simp[intOf];omega
         ·have bg:57343<x:=by omega
          clear au
          go_wp2_with(first|(go_at_call 101;(with_reducible refine(I.out _).mono ?_);rintro e w' ⟨rfl,rfl⟩)|(go_at_call 101;(with_reducible refine(R.out _).mono ?_);rintro e w' ⟨rfl,rfl⟩)|(go_at_call 138;(with_reducible refine(X.out _).mono ?_);rintro e O ⟨rfl,B⟩;have D:=yab F B;clear B)|(go_at_call 139;(with_reducible refine(HP.out _).mono ?_);rintro e w3 ⟨rfl,B⟩;have Y:=yab D B;clear B))
          go_roundw
          case rel=>exact⟨k+6,f,out++i_ x,by go_num,by rw[←N.out],by omega,by have:=HF.out;omega,ag.out,ah.out,E.out,Y.out⟩
          case measure=>simp[intOf];omega
        ·have ae:=dM (fun W:World=>Iq s ((k:Int)+6) (k+6) W (by omega) (by omega) (by omega))
         have ak:=dM (fun W:World=>Iq s ((k:Int)+7) (k+7) W (by omega) (by omega) (by omega))
         have HY:=dM (fun W:World=>qM s ((k:Int)+8) (k+8) W (by omega) (by omega) (by omega))
         have aH:=zk (a_ s) (k+8)
         have ap:Hid (oi (a_ s) k=if f_ (a_ s) (k+6)=92∧f_ (a_ s) (k+7)=117 then(mX (a_ s) 4 (k+8) 0).1 else-1):=dM rfl
         obtain⟨m,hm⟩:=yaa (oi (a_ s) k)
         rw[←hm]at ap G
         obtain⟨c6,aE⟩: ∃m,m=f_ (a_ s) (k+6):=⟨_,rfl⟩
         obtain⟨c7,aD⟩: ∃m,m=f_ (a_ s) (k+7):=⟨_,rfl⟩
         obtain⟨z,hz⟩: ∃m,m=(mX (a_ s) 4 (k+8) 0).1:=⟨_,rfl⟩
         obtain⟨z2,aI⟩: ∃m,m=(mX (a_ s) 4 (k+8) 0).2:=⟨_,rfl⟩
         rw[←aE,←aD,←hz]at ap
         rw[←aE]at ae
         rw[←aD]at ak
         rw[←hz,←aI]at HY
         rw[←hz]at aH
         obtain⟨a7,a6⟩:=aH
         clear hm aE aD hz aI
         have bb: ¬x<55296:=by omega
         have ba: ¬57343<x:=by omega
         have ad:Hid (nE (a_ s) i=if 56320≤x∨m<56320∨57343<m then([],k,50)else oc (a_ s) f (k+12) (out++i_ (65536+(x-55296)*1024+m-56320))):=dM (by rw[G.out,dN am,dN au])
         clear G au M hd aa af
         by_cases av:c6=92∧c7=117
         ·obtain⟨h6,h7⟩:=av
          have aB:m=z:=by rw[ap.out,dP ⟨h6,h7⟩]
          clear ap
          subst aB
          obtain⟨b6,m6⟩:=pY h6
          obtain⟨b7,m7⟩:=pY h7
          clear h6 h7
          by_cases g1:56320≤x
          ·have E:Hid (nE (a_ s) i=([],k,50)):=dM (by rw[ad.out,dP (.inl g1)])
           clear ad
           go_wp2_with(first|(go_at_call 101;(with_reducible refine(I.out _).mono ?_);rintro e w' ⟨rfl,rfl⟩)|(go_at_call 101;(with_reducible refine(R.out _).mono ?_);rintro e w' ⟨rfl,rfl⟩)|(go_at_call 138;(with_reducible refine(X.out _).mono ?_);rintro e O ⟨rfl,B⟩;have D:=yab F B;clear B)|(go_at_call 101;(with_reducible refine(ae.out _).mono ?_);rintro e w' ⟨rfl,rfl⟩)|(go_at_call 101;(with_reducible refine(ak.out _).mono ?_);rintro e w' ⟨rfl,rfl⟩)|(go_at_call 138;(with_reducible refine(HY.out _).mono ?_);rintro e w3 ⟨rfl,B⟩;have Y:=yab D B;clear B))
           go_ret3
           rw[E.out]
           exact⟨rfl,Y.out⟩
          ·by_cases g2:m<56320
           ·have E:Hid (nE (a_ s) i=([],k,50)):=dM (by rw[ad.out,dP (.inr (.inl g2))])
            clear ad
            go_wp2_with(first|(go_at_call 101;(with_reducible refine(I.out _).mono ?_);rintro e w' ⟨rfl,rfl⟩)|(go_at_call 101;(with_reducible refine(R.out _).mono ?_);rintro e w' ⟨rfl,rfl⟩)|(go_at_call 138;(with_reducible refine(X.out _).mono ?_);rintro e O ⟨rfl,B⟩;have D:=yab F B;clear B)|(go_at_call 101;(with_reducible refine(ae.out _).mono ?_);rintro e w' ⟨rfl,rfl⟩)|(go_at_call 101;(with_reducible refine(ak.out _).mono ?_);rintro e w' ⟨rfl,rfl⟩)|(go_at_call 138;(with_reducible refine(HY.out _).mono ?_);rintro e w3 ⟨rfl,B⟩;have Y:=yab D B;clear B))
            go_ret3
            rw[E.out]
            exact⟨rfl,Y.out⟩
           ·by_cases g3:57343<m
            ·have E:Hid (nE (a_ s) i=([],k,50)):=dM (by rw[ad.out,dP (.inr (.inr g3))])
             clear ad
             go_wp2_with(first|(go_at_call 101;(with_reducible refine(I.out _).mono ?_);rintro e w' ⟨rfl,rfl⟩)|(go_at_call 101;(with_reducible refine(R.out _).mono ?_);rintro e w' ⟨rfl,rfl⟩)|(go_at_call 138;(with_reducible refine(X.out _).mono ?_);rintro e O ⟨rfl,B⟩;have D:=yab F B;clear B)|(go_at_call 101;(with_reducible refine(ae.out _).mono ?_);rintro e w' ⟨rfl,rfl⟩)|(go_at_call 101;(with_reducible refine(ak.out _).mono ?_);rintro e w' ⟨rfl,rfl⟩)|(go_at_call 138;(with_reducible refine(HY.out _).mono ?_);rintro e w3 ⟨rfl,B⟩;have Y:=yab D B;clear B))
             go_ret3
             rw[E.out]
             exact⟨rfl,Y.out⟩
            ·have E:Hid (nE (a_ s) i=oc (a_ s) f (k+12) (out++i_ (65536+(x-55296)*1024+m-56320))):=dM (by rw[ad.out,dN (by omega)])
             have HP:=dM (fun W:World=>Lg (65536+(x-55296)*1024+m-56320) W)
             have aj:=BF (65536+(x-55296)*1024+m-56320)
             have L:=F_ (65536+(x-55296)*1024+m-56320)
             obtain⟨Q,hQ⟩:=yaa (i_ (65536+(x-55296)*1024+m-56320))
             rw[←hQ]at HP E aj L
             clear hQ ad
             have N:Hid (toS out++toS Q=toS (out++Q)):=dM (J3 ai.out L)
             have ah:=dM (ai.out.append L)
             have ab:(toS out).size+(toS Q).size≤9223372036854775807:=by rw[qc,qc];omega
             have ag:Hid ((out++Q).length≤k+12):=dM (by rw[dS];omega)
             obtain⟨P,hP⟩:=yaa (toS Q)
             rw[←hP]at HP N ab
             obtain⟨U,Z⟩:=yaa (toS out)
             rw[←Z]at N ab⊢
             clear aj L hP Z
             have a8: ¬56320≤x:=g1
             go_wp2_with(first|(go_at_call 101;(with_reducible refine(I.out _).mono ?_);rintro e w' ⟨rfl,rfl⟩)|(go_at_call 101;(with_reducible refine(R.out _).mono ?_);rintro e w' ⟨rfl,rfl⟩)|(go_at_call 138;(with_reducible refine(X.out _).mono ?_);rintro e O ⟨rfl,B⟩;have D:=yab F B;clear B)|(go_at_call 101;(with_reducible refine(ae.out _).mono ?_);rintro e w' ⟨rfl,rfl⟩)|(go_at_call 101;(with_reducible refine(ak.out _).mono ?_);rintro e w' ⟨rfl,rfl⟩)|(go_at_call 138;(with_reducible refine(HY.out _).mono ?_);rintro e w3 ⟨rfl,B⟩;have Y:=yab D B;clear B)|(go_at_call 139;(with_reducible refine(HP.out _).mono ?_);rintro e w4 ⟨rfl,B⟩;have aY:=yab Y B;clear B))
             go_roundw
             case rel=>exact⟨k+12,f,out++Q,by go_num,by rw[←N.out],by omega,by have:=HF.out;omega,ag.out,ah.out,E.out,aY.out⟩
             case measure=>simp[intOf];omega
         ·have aB:m= -1:=by rw[ap.out,dN av]
          have E:Hid (nE (a_ s) i=([],k,50)):=dM (by rw[ad.out,dP (by omega)])
          clear ap ad
          subst aB
          by_cases h6:c6=92
          ·have h7:c7≠117:=fun h=>av ⟨h6,h⟩
           obtain⟨b6,m6⟩:=pY h6
           obtain⟨b7,m7⟩:=o8 h7
           clear h6 h7 av
           by_cases g1:56320≤x
           ·go_wp2_with(first|(go_at_call 101;(with_reducible refine(I.out _).mono ?_);rintro e w' ⟨rfl,rfl⟩)|(go_at_call 101;(with_reducible refine(R.out _).mono ?_);rintro e w' ⟨rfl,rfl⟩)|(go_at_call 138;(with_reducible refine(X.out _).mono ?_);rintro e O ⟨rfl,B⟩;have D:=yab F B;clear B)|(go_at_call 101;(with_reducible refine(ae.out _).mono ?_);rintro e w' ⟨rfl,rfl⟩)|(go_at_call 101;(with_reducible refine(ak.out _).mono ?_);rintro e w' ⟨rfl,rfl⟩))
            go_ret3
            rw[E.out]
            exact⟨rfl,D.out⟩
           ·go_wp2_with(first|(go_at_call 101;(with_reducible refine(I.out _).mono ?_);rintro e w' ⟨rfl,rfl⟩)|(go_at_call 101;(with_reducible refine(R.out _).mono ?_);rintro e w' ⟨rfl,rfl⟩)|(go_at_call 138;(with_reducible refine(X.out _).mono ?_);rintro e O ⟨rfl,B⟩;have D:=yab F B;clear B)|(go_at_call 101;(with_reducible refine(ae.out _).mono ?_);rintro e w' ⟨rfl,rfl⟩)|(go_at_call 101;(with_reducible refine(ak.out _).mono ?_);rintro e w' ⟨rfl,rfl⟩))
            go_ret3
            rw[E.out]
            exact⟨rfl,D.out⟩
          ·obtain⟨b6,m6⟩:=o8 h6
           clear h6 av
           by_cases g1:56320≤x
           ·go_wp2_with(first|(go_at_call 101;(with_reducible refine(I.out _).mono ?_);rintro e w' ⟨rfl,rfl⟩)|(go_at_call 101;(with_reducible refine(R.out _).mono ?_);rintro e w' ⟨rfl,rfl⟩)|(go_at_call 138;(with_reducible refine(X.out _).mono ?_);rintro e O ⟨rfl,B⟩;have D:=yab F B;clear B)|(go_at_call 101;(with_reducible refine(ae.out _).mono ?_);rintro e w' ⟨rfl,rfl⟩))
            go_ret3
            rw[E.out]
            exact⟨rfl,D.out⟩
           ·go_wp2_with(first|(go_at_call 101;(with_reducible refine(I.out _).mono ?_);rintro e w' ⟨rfl,rfl⟩)|(go_at_call 101;(with_reducible refine(R.out _).mono ?_);rintro e w' ⟨rfl,rfl⟩)|(go_at_call 138;(with_reducible refine(X.out _).mono ?_);rintro e O ⟨rfl,B⟩;have D:=yab F B;clear B)|(go_at_call 101;(with_reducible refine(ae.out _).mono ?_);rintro e w' ⟨rfl,rfl⟩))
            go_ret3
            rw[E.out]
            exact⟨rfl,D.out⟩
      ·have az:=dM (fun W:World=>rZ d W)
       obtain⟨aN,aG⟩:=pY aa
       obtain⟨aW,aQ⟩:=o8 af
       have G:Hid (nE (a_ s) i=if nQ d=[]then([],k+1,50)else oc (a_ s) f (k+2) (out++nQ d)):=dM (by
        rw[ax.out,oc,←M,←hd,dN aw,dN V,dN (by omega),dP af])
       have aj:=KT d
       have L:=MM d
       by_cases ao:nQ d=[]
       ·have E:Hid (nE (a_ s) i=([],k+1,50)):=dM (by rw[G.out,dP ao])
        rw[ao,←Ek]at az
        clear M hd aa af G aj L ao
        go_wp2_with(first|(go_at_call 101;(with_reducible refine(I.out _).mono ?_);rintro e w' ⟨rfl,rfl⟩)|(go_at_call 101;(with_reducible refine(R.out _).mono ?_);rintro e w' ⟨rfl,rfl⟩)|(go_at_call 137;(with_reducible refine(az.out _).mono ?_);rintro e O ⟨rfl,B⟩;have D:=yab F B;clear B))
        go_ret3
        rw[E.out]
        exact⟨Cp rfl (by show(k:Int)+1=((k+1:Nat):Int);omega) rfl,D.out⟩
       ·have E:Hid (nE (a_ s) i=oc (a_ s) f (k+2) (out++nQ d)):=dM (by rw[G.out,dN ao])
        have N:Hid (toS out++toS (nQ d)=toS (out++nQ d)):=dM (J3 ai.out L)
        have ah:=dM (ai.out.append L)
        have ab:(toS out).size+(toS (nQ d)).size≤9223372036854775807:=by rw[qc,qc];omega
        have ag:Hid ((out++nQ d).length≤k+2):=dM (by rw[dS];omega)
        have aS:((toS (nQ d)).toList==[])=false:=by
         rw[dY]
         intro h
         refine ao ?_
         have h2:(toS (nQ d)).size=0:=by rw[eT]at h;exact eH List.length h
         rw[qc]at h2
         exact ea h2
        obtain⟨P,hP⟩:=yaa (toS (nQ d))
        rw[←hP]at az N ab aS
        obtain⟨U,Z⟩:=yaa (toS out)
        rw[←Z]at N ab⊢
        clear M hd aa af G aj L hP Z ao
        go_wp2_with(first|(go_at_call 101;(with_reducible refine(I.out _).mono ?_);rintro e w' ⟨rfl,rfl⟩)|(go_at_call 101;(with_reducible refine(R.out _).mono ?_);rintro e w' ⟨rfl,rfl⟩)|(go_at_call 137;(with_reducible refine(az.out _).mono ?_);rintro e O ⟨rfl,B⟩;have D:=yab F B;clear B))
        go_roundw
        case rel=>exact⟨k+2,f,out++nQ d,by go_num,by rw[←N.out],by omega,by have:=HF.out;omega,ag.out,ah.out,E.out,D.out⟩
        case measure=>simp[intOf];omega
     ·obtain⟨aN,aG⟩:=o8 aa
      have aC:a_ (s.extract k s.size)=(a_ s).drop k:=by rw[pF,eo (by rw[HL.out];exact dQ _)]
      have HN:=dM (fun W:World=>ub (s.extract k s.size) W (by rw[←j_,aC,eq,HL.out];omega))
      rw[aC]at HN
      have ay:=CO ((a_ s).drop k)
      have ar:=yK (l:=(a_ s).drop k)
      have G:Hid (nE (a_ s) i=if(nd ((a_ s).drop k)).1<0 then([],k,50)else oc (a_ s) f (k+(nd ((a_ s).drop k)).2) (out++((a_ s).drop k).take (nd ((a_ s).drop k)).2)):=dM (by
       rw[ax.out,oc,←M,dN aw,dN V,dP aa])
      obtain⟨x,hx⟩:=yaa ((nd ((a_ s).drop k)).1)
      obtain⟨n,hn⟩:=yaa ((nd ((a_ s).drop k)).2)
      rw[←hx,←hn]at HN ay G ar
      rw[eq,HL.out]at ay ar
      clear hx hn aC
      by_cases am:x<0
      ·have E:Hid (nE (a_ s) i=([],k,50)):=dM (by rw[G.out,dP am])
       clear M aa G ar ay
       go_wp2_with(first|(go_at_call 101;(with_reducible refine(I.out _).mono ?_);rintro e w' ⟨rfl,rfl⟩)|(go_at_call 136;(with_reducible refine(HN.out _).mono ?_);rintro e O ⟨rfl,B⟩;have D:=yab F B;clear B))
       go_ret3
       rw[E.out]
       exact⟨rfl,D.out⟩
      ·obtain⟨_,_,n1,n2,n3,_,_⟩:=ar (by omega)
       have E:Hid (nE (a_ s) i=oc (a_ s) f (k+n) (out++((a_ s).drop k).take n)):=dM (by rw[G.out,dN am])
       have aP:=dM (tM s k n (by omega))
       have L:Bytes (((a_ s).drop k).take n):=((pM s).drop k).take n
       have N:Hid (toS out++s.extract k (k+n)=toS (out++((a_ s).drop k).take n)):=dM (by rw[aP.out];exact J3 ai.out L)
       have ah:=dM (ai.out.append L)
       have aT:(s.extract k (k+n)).size≤4:=by rw[aP.out,qc,ep];omega
       have ab:(toS out).size+(s.extract k (k+n)).size≤9223372036854775807:=by rw[qc];omega
       have ag:Hid ((out++((a_ s).drop k).take n).length≤k+n):=dM (by rw[dS,ep];omega)
       obtain⟨U,Z⟩:=yaa (toS out)
       rw[←Z]at N ab⊢
       clear M aa G ar ay L aT Z
       have bi:(k:Int)+(n:Int)≤(s.size:Int):=by omega
       go_wp2_with(first|(go_at_call 101;(with_reducible refine(I.out _).mono ?_);rintro e w' ⟨rfl,rfl⟩)|(go_at_call 136;(with_reducible refine(HN.out _).mono ?_);rintro e O ⟨rfl,B⟩;have D:=yab F B;clear B))
       go_roundw
       case rel=>exact⟨k+n,f,out++((a_ s).drop k).take n,by go_num,by rw[←N.out],by omega,by have:=HF.out;omega,ag.out,ah.out,E.out,D.out⟩
       case measure=>simp[intOf];omega
 ·have E:Hid (nE (a_ s) i=([],i,50)):=dM (by unfold nE;rw[←aq,dP V])
  have aF:(q0==34)=false:=by rw[dY];exact V
  have aV:(q0 !=34)=true:=by rw[bne,aF];rfl
  clear aq V
  go_enter func105,ntmps105
  go_wp2_with(go_at_call 101;refine(aA.out _).mono ?_;rintro e w' ⟨rfl,rfl⟩)
  go_ret3
  rw[E.out]
  exact⟨rfl,dU _ _⟩
theorem pN {P:Program} {D:Func} {p u1 u2 u3:Tmp} {q:TypeId} (h:D.results= #[.cell p q,.tmp u1,.tmp u2,.tmp u3]) (tmps:Array Value) (w:World) (g:Nat) (t:TypeId) (cs:List Value) (B:TypeDesc)
  (G:tmps.getD p undef= .pointer (some ⟨g,0,none⟩)) (M:Blk w g t cs)
  (E:P.underlying q=some B) (L:B.isRow=true) (hi:(P.info? q).map (·.size)=some cs.length):
  (results D tmps).run P w= .ok (.tuple #[.agg cs.toArray,tmps.getD u1 undef,tmps.getD u2 undef,tmps.getD u3 undef]) w:=by
 have F:tmps[p]?.getD undef= .pointer (some ⟨g,0,none⟩):=by simpa using G
 have I:=lC w g t q cs.toArray (0,0) B M E (by cases B<;>first|rfl|cases L) (by simpa using hi)
 simp only[results,h]
 simp[fF,Result.andThen,F,asAddr,I]
def sV (W:World) (r:VR) (e:Ending) (w':World):Prop:=
 ∃v,e= .returned (.tuple #[v,.int .i64 (r.2.1:Int),.int .i64 r.2.2.1,.int .i64 r.2.2.2])∧RepS w' (fun b=>W.heap.size≤b) r.1 v∧Below W.heap.size W w'
theorem Fx {l:List Int}: ∀{x:List Int} {i:Nat},(∀c∈x,0≤c)→i≤l.length→(oA l i x).1≤l.length
 |[],i,_,hi=>by rw[oA];exact hi
 |c::r,i,hx,hi=>by
  rw[oA]
  split
  ·rename_i h
   exact Fx (fun c q=>hx c (eE _ q)) (oq (by have:=hx c (by simp);omega))
  ·exact hi
theorem Ef (s:ByteArray) (I:Int) (i:Nat) (w:World) (B:I=(i:Int)) (q:s.size≤9223372036854775807) (hi:i≤s.size):
  Calls prog 73 #[.string s,.int .i64 I] w fun e w'=>e= .returned (.int .i64 (d_ (a_ s) i:Nat))∧w=w':=by
 subst B;exact Hp s i w q hi
theorem qb (w:World) {n:Nat} (h:w.heap.size=n) (cs:List Value) (t:TypeId):Blk (w.alloc (.cells cs.toArray t)) n t cs:=by
 subst h;exact eC w _
theorem sW (W:World) (c1 c2:List Value):Blk ((W.alloc (.cells c1.toArray 63)).alloc (.cells c2.toArray 63)) W.heap.size 63 c1:=
 (qb W rfl c1 _).grownN (dO _ _ none)
theorem yN (W:World) (c1 c2:List Value):Blk ((W.alloc (.cells c1.toArray 63)).alloc (.cells c2.toArray 63)) (W.heap.size+1) 63 c2:=
 qb (W.alloc _) (by simp) c2 _
theorem qo (W:World) (c1 c2:List Value):Below W.heap.size W ((W.alloc (.cells c1.toArray 63)).alloc (.cells c2.toArray 63)):=((dU _ _).alloc (dQ _) _).alloc (by simp) _
theorem FC (l:List Int) (i:Nat) (h:(nE l i).2.2=0):(nE l i).2.1≤l.length:=by
 unfold nE at h⊢
 split
 ·rename_i q;rw[dP q]at h;exact absurd (show(50:Int)=0 from h) (by decide)
 ·rename_i q;rw[dN q]at h;exact Ia l _ _ _ h
theorem qQ (l:List Int): ∀(f i:Nat) (out:List Int),(oc l f i out).1.length≤out.length+4*f
 |0,i,out=>by rw[oc];simp
 |f+1,i,out=>by
  have h: ∀(i:Nat) (x:List Int),x.length≤4→(oc l f i (out++x)).1.length≤out.length+4*(f+1):=fun i x q=>by
   have:=qQ l f i (out++x)
   rw[dS]at this;omega
  rw[oc]
  split
  ·simp
  ·split
   ·simp only;omega
   ·split
    ·split
     ·simp
     ·refine h _ _ ?_
      have:=(CO (l.drop i)).2.2.1
      rw[ep];omega
    ·split
     ·split
      ·simp
      ·exact h _ _ (by have:=KT (f_ l (i+1));omega)
     ·split
      ·simp
      ·split
       ·exact h _ _ (BF _)
       ·split
        ·simp
        ·exact h _ _ (BF _)
theorem J7 (l:List Int) (i:Nat):(nE l i).1.length≤4*l.length+4:=by
 unfold nE
 split
 ·simp
 ·have:=qQ l (l.length+1) (i+1) []
  simp at this;omega
theorem pE {W D:World} (h:Below W.heap.size W D) {M L I G F:Value} (N:Blk D W.heap.size 63 [M,L,I,G,F]) (z0 B q z3 z4:Value):
  Blk (((((D.setCell ⟨W.heap.size,0,none⟩ z0).setCell ⟨W.heap.size,1,none⟩ B).setCell ⟨W.heap.size,2,none⟩ q).setCell ⟨W.heap.size,3,none⟩ z3).setCell ⟨W.heap.size,4,none⟩ z4) W.heap.size 63 [z0,B,q,z3,z4]∧
  Below W.heap.size W (((((D.setCell ⟨W.heap.size,0,none⟩ z0).setCell ⟨W.heap.size,1,none⟩ B).setCell ⟨W.heap.size,2,none⟩ q).setCell ⟨W.heap.size,3,none⟩ z3).setCell ⟨W.heap.size,4,none⟩ z4):=by
 refine⟨((((N.setCell 0 z0).setCell 1 B).setCell 2 q).setCell 3 z3).setCell 4 z4,?_⟩
 have g: ∀{w:World} (i:Nat) (v:Value),Below W.heap.size W w→Below W.heap.size W (w.setCell ⟨W.heap.size,i,none⟩ v):=fun i v h=>h.grown (ou _ _ i v) h.size (by intro k E;injection E with E;omega)
 exact g 4 z4 (g 3 z3 (g 2 q (g 1 B (g 0 z0 h))))
theorem sX {B:Nat} {a w:World} (h:Below B a w):Below B a w.drew:=⟨h.os,h.tape,h.output,h.size,h.block⟩
theorem NS (s:ByteArray) (hs:s.size≤5000) (ag:Int) (I:Nat→Int→VR) (i:Nat) (left:Int) (hi:i≤s.size) (aj:0≤left) (hl:left≤256) (W:World) (Q:f_ (a_ s) i=110):
  Calls prog 72 #[.string s,.int .i64 (i:Int),.int .i64 ag,.int .i64 left] W (sV W (mT (a_ s) I i left)):=by
 have Z:=dM (j_ s)
 have HC:=dM (fun W:World=>tl s i W (by omega) (by omega))
 rw[Q]at HC
 have L:=dM (fun W:World=>Lu s ⟨#[110,117,108,108]⟩ i W (by omega) (by decide) (by omega))
 have O:=Fx (l:=a_ s) (x:=[110,117,108,108]) (i:=i) (by decide) (by rw[Z.out];exact hi)
 rw[show a_ ⟨#[110,117,108,108]⟩=[110,117,108,108]from rfl]at L
 have F:Hid (mT (a_ s) I i left=if left-1<0 then(zeroJ,i,left-1,53)else pj (a_ s) (left-1) zeroJ (oA (a_ s) i [110,117,108,108])):=dM (by
  unfold mT;rw[Q];rfl)
 obtain⟨p,U⟩:=yaa (oA (a_ s) i [110,117,108,108])
 rw[←U]at L O F
 obtain⟨p,er⟩:=p
 rw[Z.out]at O
 simp only at L O
 have ah:=dM (fun W:World=>Hp s p W (by omega) O)
 clear Q U
 by_cases h1:left-1<0
 ·have M:Hid (mT (a_ s) I i left=(zeroJ,i,left-1,53)):=dM (by rw[F.out,dP h1])
  clear F
  go_enter fp,fg
  go_wp2_with(go_at_call 101;(with_reducible refine(HC.out _).mono ?_);rintro e w' ⟨rfl,rfl⟩)
  rw[M.out]
  refine dW (v:= .tuple #[.agg #[.int .i64 0,.int .i64 0,.string ⟨#[]⟩,.slice none 0 0,.slice none 0 0],.int .i64 (i:Int),.int .i64 (left-1),.int .i64 53]) (by simp[results,eR,go_sem]) rfl ⟨_,rfl,RepS.zero _ _,?_⟩
  exact(dU _ _).alloc (dQ _) _
 ·by_cases E:er=0
  ·have M:Hid (mT (a_ s) I i left=(zeroJ,d_ (a_ s) p,left-1,0)):=dM (by rw[F.out,dN h1];unfold pj;rw[dN (by simp only;omega)])
   have D:=(pY E).1
   have aa:=(pY E).2
   clear F E
   go_enter fp,fg
   go_wp2_with(first
    |(go_at_call 101;(with_reducible refine(HC.out _).mono ?_);rintro e w' ⟨rfl,rfl⟩)
    |(go_at_call 104;(with_reducible refine(L.out _).mono ?_);rintro e q ⟨rfl,D⟩;have N:=dM (DB D);have B:=Blk.below (sW W zeros5 zeros5) D (by simp;omega);have G:=Blk.below (yN W zeros5 zeros5) D (by simp);clear D))
   obtain⟨a0,a1,a2,a3,a4⟩:q.cell? ⟨W.heap.size,0,none⟩=some (.int .i64 0)∧q.cell? ⟨W.heap.size,1,none⟩=some (.int .i64 0)∧q.cell? ⟨W.heap.size,2,none⟩=some (.string ⟨#[]⟩)∧q.cell? ⟨W.heap.size,3,none⟩=some (.slice none 0 0)∧q.cell? ⟨W.heap.size,4,none⟩=some (.slice none 0 0):=⟨B.cell 0,B.cell 1,B.cell 2,B.cell 3,B.cell 4⟩
   obtain⟨f0,f1,f2,f3,f4⟩:q.frozen? ⟨W.heap.size,0,none⟩=false∧q.frozen? ⟨W.heap.size,1,none⟩=false∧q.frozen? ⟨W.heap.size,2,none⟩=false∧q.frozen? ⟨W.heap.size,3,none⟩=false∧q.frozen? ⟨W.heap.size,4,none⟩=false:=⟨B.frozen 0,B.frozen 1,B.frozen 2,B.frozen 3,B.frozen 4⟩
   obtain⟨b0,b1,b2,b3,b4⟩:q.cell? ⟨W.heap.size+1,0,none⟩=some (.int .i64 0)∧q.cell? ⟨W.heap.size+1,1,none⟩=some (.int .i64 0)∧q.cell? ⟨W.heap.size+1,2,none⟩=some (.string ⟨#[]⟩)∧q.cell? ⟨W.heap.size+1,3,none⟩=some (.slice none 0 0)∧q.cell? ⟨W.heap.size+1,4,none⟩=some (.slice none 0 0):=⟨G.cell 0,G.cell 1,G.cell 2,G.cell 3,G.cell 4⟩
   go_region_law(go_simp;go_at_call 73;(with_reducible refine(ah.out _).mono ?_);rintro e w' ⟨rfl,rfl⟩)
   all_goals
    go_wp2_with fail
    simp only[fk,fD,eZ,Act.put,fE,gR,gt]
    obtain⟨hA,ae⟩:=pE N.out B (.int .i64 0) (.int .i64 0) (.string ⟨#[]⟩) (.slice none 0 0) (.slice none 0 0)
    obtain⟨hC,ab⟩:=pE (sX N.out) B.drew (.int .i64 0) (.int .i64 0) (.string ⟨#[]⟩) (.slice none 0 0) (.slice none 0 0)
    have af:=hA.drew
    have ad:=sX ae
    refine dW (v:= .tuple #[.agg #[.int .i64 0,.int .i64 0,.string ⟨#[]⟩,.slice none 0 0,.slice none 0 0],.int .i64 (d_ (a_ s) p:Nat),.int .i64 (left-1),.int .i64 0]) (pN eR _ _ W.heap.size _ [.int .i64 0,.int .i64 0,.string ⟨#[]⟩,.slice none 0 0,.slice none 0 0] _ rfl (by first|(with_reducible exact af)|(with_reducible exact hC)) ed rfl m8) rfl ?_
    rw[M.out]
    exact⟨_,rfl,RepS.zero _ _,(by first|(with_reducible exact ad)|(with_reducible exact ab))⟩
  ·have M:Hid (mT (a_ s) I i left=(zeroJ,p,left-1,er)):=dM (by rw[F.out,dN h1];exact dP E)
   have D:=(o8 E).1
   have aa:=(o8 E).2
   clear F E
   go_enter fp,fg
   go_wp2_with(first
    |(go_at_call 101;(with_reducible refine(HC.out _).mono ?_);rintro e w' ⟨rfl,rfl⟩)
    |(go_at_call 104;(with_reducible refine(L.out _).mono ?_);rintro e q ⟨rfl,D⟩;have N:=dM (DB D);have B:=Blk.below (sW W zeros5 zeros5) D (by simp;omega);have G:=Blk.below (yN W zeros5 zeros5) D (by simp);clear D)
    |(refine nn rfl none rfl _ _ _ rfl W.heap.size 0 [.int .i64 0,.int .i64 0,.string ⟨#[]⟩,.slice none 0 0,.slice none 0 0] rfl rfl _ _ B (by simp[zeros5]) m8 (by intro v R;simp at R;rcases R with rfl|rfl|rfl|rfl|rfl<;>rfl) ?_;intro w5 Y X;rw[nr _ _ (by simp[zeros5])]at Y;have ai:=dM (N.out.grown X N.out.size (by intro k V;injection V with V;omega));clear X;try go_frame))
   refine dW (v:= .tuple #[.agg #[.int .i64 0,.int .i64 0,.string ⟨#[]⟩,.slice none 0 0,.slice none 0 0],.int .i64 (p:Int),.int .i64 (left-1),.int .i64 er]) (pN eR _ _ W.heap.size _ [.int .i64 0,.int .i64 0,.string ⟨#[]⟩,.slice none 0 0,.slice none 0 0] _ rfl Y ed rfl m8) rfl ?_
   rw[M.out]
   exact⟨_,rfl,RepS.zero _ _,ai.out⟩
def Moves (l:List Int) (i:Nat) (left:Int) (r:VR):Prop:=r.2.2.2=0→i<r.2.1∧r.2.1≤l.length∧0≤r.2.2.1∧r.2.2.1≤left
theorem Moves.bad {l:List Int} {i:Nat} {left:Int} {v:J} {p:Nat} {n e:Int} (q:e≠0):Moves l i left (v,p,n,e):=fun h=>absurd h q
theorem oS {l:List Int} {i:Nat} (h:i≤l.length):i≤d_ l i∧d_ l i≤l.length:=BQ l.length l i (by omega) h
theorem Moves.mono {l:List Int} {i j:Nat} {left q:Int} {r:VR} (h:Moves l j q r) (hi:i≤j) (F:q≤left):Moves l i left r:=fun B=>by
 obtain⟨h1,E,D,G⟩:=h B
 exact⟨by omega,E,D,by omega⟩
theorem tr {l:List Int}: ∀{x:List Int} {i:Nat},(oA l i x).2=0→(oA l i x).1=i+x.length
 |[],i,_=>by rw[oA];rfl
 |c::r,i,h=>by
  rw[oA]at h⊢
  split
  ·rename_i q;rw[dP q]at h
   have:=tr h
   rw[this,eu];omega
  ·rename_i q;rw[dN q]at h
   exact absurd (show(50:Int)=0 from h) (by decide)
theorem H_ (l:List Int): ∀(f i:Nat) (out:List Int),(oc l f i out).2.2=0→i<(oc l f i out).2.1
 |0,i,out,h=>by rw[oc]at h;exact absurd (show(50:Int)=0 from h) (by decide)
 |f+1,i,out,h=>by
  rw[oc]at h⊢
  split
  ·rename_i D;rw[dP D]at h;exact absurd (show(50:Int)=0 from h) (by decide)
  ·rename_i D;rw[dN D]at h
   split
   ·exact Nat.lt_succ_self i
   ·rename_i F;rw[dN F]at h
    split
    ·rename_i E;rw[dP E]at h
     split
     ·rename_i q;rw[dP q]at h;exact absurd (show(50:Int)=0 from h) (by decide)
     ·rename_i q;rw[dN q]at h
      have:=H_ l f _ _ h
      have G:=(yK (l:=l.drop i) (by omega)).2.2.1
      omega
    ·rename_i E;rw[dN E]at h
     split
     ·rename_i B;rw[dP B]at h
      split
      ·rename_i q;rw[dP q]at h;exact absurd (show(50:Int)=0 from h) (by decide)
      ·rename_i q;rw[dN q]at h;have:=H_ l f _ _ h;omega
     ·rename_i B;rw[dN B]at h
      split
      ·rename_i q;rw[dP q]at h;exact absurd (show(50:Int)=0 from h) (by decide)
      ·rename_i q;rw[dN q]at h
       split
       ·rename_i hy;rw[dP hy]at h;have:=H_ l f _ _ h;omega
       ·rename_i hy;rw[dN hy]at h
        split
        ·rename_i hz;rw[dP hz]at h;exact absurd (show(50:Int)=0 from h) (by decide)
        ·rename_i hz;rw[dN hz]at h;have:=H_ l f _ _ h;omega
theorem Io (l:List Int) (i:Nat) (h:(nE l i).2.2=0):i<(nE l i).2.1:=by
 unfold nE at h⊢
 split
 ·rename_i q;rw[dP q]at h;exact absurd (show(50:Int)=0 from h) (by decide)
 ·rename_i q;rw[dN q]at h
  have:=H_ l _ _ _ h
  omega
theorem J_ {l:List Int} {i:Nat} {left q:Int} (E:0≤left) (D:left≤q) (v:J) (p:Nat×Int) (B:p.2=0→i<p.1∧p.1≤l.length):Moves l i q (pj l left v p):=by
 unfold pj
 split
 ·rename_i h;exact .bad h
 ·rename_i h
  have h0:p.2=0:=by omega
  obtain⟨h1,F⟩:=B h0
  have:=oS F
  exact fun _=>⟨by show i<d_ l p.1;omega,this.2,E,D⟩
theorem My {l:List Int} {D:Nat→Int→VR} (G: ∀i left,i<l.length→0≤left→Moves l i left (D i left)) (i:Nat) (left:Int) (hi:i≤l.length):Moves l i left (mT l D i left):=by
 unfold mT
 by_cases q:pA (f_ l i)=true
 ·rw[dN (by rw[q];simp)]
  have I:i<l.length:=oq (by intro e;rw[e]at q;revert q;decide)
  split
  ·exact .bad (by decide)
  ·rename_i h1
   split
   ·split
    ·exact .bad (by decide)
    ·rename_i N
     have L:=Fw (l.drop i)
     rw[eq]at L
     split
     ·have:=oS (l:=l) (i:=i+np (l.drop i)) (by omega)
      exact fun _=>⟨by show i<d_ l _;omega,this.2,by show 0≤left-1;omega,by show left-1≤left;omega⟩
     ·exact .bad (by decide)
   ·have B: ∀(x:List Int),x≠[]→(∀c∈x,0≤c)→(oA l i x).2=0→i<(oA l i x).1∧(oA l i x).1≤l.length:=fun x F E h=>by
     have h1:=tr h
     have M:=Fx E hi
     have:=jf.2 F
     exact⟨by omega,M⟩
    split
    ·exact J_ (by omega) (by omega) _ _ (B _ (by decide) (by decide))
    ·split
     ·exact J_ (by omega) (by omega) _ _ (B _ (by decide) (by decide))
     ·split
      ·exact J_ (by omega) (by omega) _ _ (B _ (by decide) (by decide))
      ·split
       ·exact J_ (by omega) (by omega) _ _ (fun h=>⟨Io l i h,FC l i h⟩)
       ·exact(G i (left-1) I (by omega)).mono (dQ _) (by omega)
 ·rw[dP q]
  exact .bad (by decide)
theorem Kd {l:List Int} {val:Nat→Int→VR} (E: ∀i left,i≤l.length→0≤left→Moves l i left (val i left)) (obj:Bool): ∀(f:Nat) (first:Bool) (i:Nat) (left:Int) (ks:List ByteArray) (vs:List J),i≤l.length→0≤left→Moves l i left (nW l val obj f first i left ks vs)
 |0,first,i,left,ks,vs,_,_=>by rw[nW];exact .bad (by decide)
 |f+1,first,i,left,ks,vs,hi,hl=>by
  have I: ∀(a:Nat) (t:ByteArray),i≤a→a≤l.length→Moves l i left (s8 l val obj (nW l val obj f false) a left t ks vs):=fun a t M F=>by
   unfold s8
   by_cases q:(val a left).2.2.2≠0
   ·rw[dP q];exact .bad q
   ·rw[dN q]
    obtain⟨h1,O,D,N⟩:=E a left F hl (by omega)
    by_cases L:f_ l (val a left).2.1≠44∧f_ l (val a left).2.1≠(if obj=true then 125 else 93)
    ·rw[dP L];exact .bad (by decide)
    ·rw[dN L]
     cases obj
     ·exact(Kd E false f false _ _ _ _ O D).mono (by omega) N
     ·exact(Kd E true f false _ _ _ _ O D).mono (by omega) N
  have G: ∀(a:Nat),i≤a→a≤l.length→Moves l i left (rD l val obj (nW l val obj f false) a left ks vs):=fun a M F=>by
   unfold rD
   split
   ·split
    ·rename_i q;exact .bad q
    ·rename_i q
     have h0:(nE l a).2.2=0:=by omega
     have U:=Io l a h0
     have Q:=FC l a h0
     have R:=oS Q
     split
     ·exact .bad (by decide)
     ·split
      ·exact .bad (by decide)
      ·rename_i V
       have D:=oq (l:=l) (i:=d_ l (nE l a).2.1) (by omega)
       have B:=oS (l:=l) (i:=d_ l (nE l a).2.1+1) (by omega)
       exact I _ _ (by omega) B.2
   ·exact I _ _ M F
  rw[nW]
  by_cases q:f_ l i=(if obj=true then 125 else 93)
  ·rw[dP q]
   have D:=oq (l:=l) (i:=i) (by rw[q];cases obj<;>decide)
   have B:=oS (l:=l) (i:=i+1) (by omega)
   exact fun _=>⟨by show i<d_ l (i+1);omega,B.2,hl,kM _⟩
  ·rw[dN q]
   split
   ·exact G _ (dQ _) hi
   ·split
    ·exact .bad (by decide)
    ·rename_i W
     have D:=oq (l:=l) (i:=i) (by omega)
     have B:=oS (l:=l) (i:=i+1) (by omega)
     exact G _ (by omega) B.2
theorem BI (l:List Int): ∀(d i:Nat) (left:Int),i≤l.length→Moves l i left (nj l d i left)
 |0,i,left,hi=>by rw[nj];exact My (fun i left _ _=> .bad (by decide)) i left hi
 |d+1,i,left,hi=>by
  rw[nj]
  refine My (fun i left hi q=> ?_) i left hi
  unfold nV
  have s:=oS (l:=l) (i:=i+1) (by omega)
  exact(Kd (fun i left hi _=>BI l d i left hi) _ _ _ _ _ _ _ s.2 q).mono (by omega) (kM _)
def oY (s:ByteArray):J:= .mk 3 0 s [] []
def yx (W:World) (kind n:Int) (s:ByteArray) (e:Ending) (w':World):Prop:=e= .returned (.agg #[.int .i64 kind,.int .i64 n,.string s,.slice none 0 0,.slice none 0 0])∧Below W.heap.size W w'
theorem If (s:ByteArray) (w:World) (q:s.size≤9223372036854775807):Calls prog 68 #[.string s] w (yx w 3 0 s):=by
 go_enter func68,ntmps68
 go_wp2
 refine dW (v:= .agg #[.int .i64 3,.int .i64 0,.string s,.slice none 0 0,.slice none 0 0]) (by simp[results,results68,go_sem]) rfl ⟨rfl,?_⟩
 exact((dU _ _).alloc (dQ _) _)
theorem EY (n:Int) (w:World):Calls prog 167 #[.int .i64 n] w (yx w 2 n ⟨#[]⟩):=by
 go_enter func167,ntmps167
 go_wp2
 refine dW (v:= .agg #[.int .i64 2,.int .i64 n,.string ⟨#[]⟩,.slice none 0 0,.slice none 0 0]) (by simp[results,results167,go_sem]) rfl ⟨rfl,?_⟩
 exact((dU _ _).alloc (dQ _) _)
theorem vH (b:Bool) (w:World):Calls prog 163 #[.bool b] w (yx w 1 (if b then 1 else 0) ⟨#[]⟩):=by
 cases b
 ·go_enter func163,ntmps163
  go_wp2
  refine dW (v:= .agg #[.int .i64 1,.int .i64 0,.string ⟨#[]⟩,.slice none 0 0,.slice none 0 0]) (by simp[results,results163,go_sem]) rfl ⟨rfl,?_⟩
  exact(((dU _ _).alloc (dQ _) _).alloc (by simp) _)
 ·go_enter func163,ntmps163
  go_wp2
  refine dW (v:= .agg #[.int .i64 1,.int .i64 1,.string ⟨#[]⟩,.slice none 0 0,.slice none 0 0]) (by simp[results,results163,go_sem]) rfl ⟨rfl,?_⟩
  exact(((dU _ _).alloc (dQ _) _).alloc (by simp) _)
end Go.Proofs.YtceddodfddlncaaGreatDoor
namespace Go.Proofs.YtceddodfddlncaaGreatDoor
open Go Tryz
def qB (xs:List Int):List Int:=xs.flatMap oZ
theorem yZ (c:Int) (r:List Int):qB (c::r)=oZ c++qB r:=rfl
theorem Gk (a b:List Int):qB (a++b)=qB a++qB b:=List.flatMap_append
theorem yX (l:List Int): ∀k,k≤l.length→ph l k=34::qB (l.take k)
 |0,_=>rfl
 |k+1,h=>by
  rw[ph,yX l k (by omega),eS (by omega),Gk,dR,dZ (by omega)]
  simp[qB]
theorem qN (l:List Int):pX l=34::(qB l++[34]):=by
 unfold pX
 rw[yX l l.length (dQ _),g9];rfl
theorem yY: ∀xs:List Int,(∀x∈xs,oZ x=[x])→qB xs=xs
 |[],_=>rfl
 |c::r,h=>by rw[yZ,h c (by simp),yY r (fun x q=>h x (eE _ q))];rfl
end Go.Proofs.YtceddodfddlncaaGreatDoor
