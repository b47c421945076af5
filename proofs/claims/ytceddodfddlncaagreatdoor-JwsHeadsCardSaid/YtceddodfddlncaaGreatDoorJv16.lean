
import Derived.Deep.CutBlock
import Derived.Deep.CutRange
import Derived.Lib.AppendStr
import Derived.Lib.Builder
import Derived.Test.YtceddodfddlncaaGreatDoorJv08
import Derived.Test.YtceddodfddlncaaGreatDoorJv11
import Derived.Test.YtceddodfddlncaaGreatDoorJv15
set_option maxRecDepth 100000
set_option maxHeartbeats 16000000
set_option linter.all false
namespace Go.Proofs.YtceddodfddlncaaGreatDoor
open Go Go.RowKit Tryz
def pl (s:ByteArray):Bool:=decide (na (a_ s)=(a_ s).length)
theorem L4 (s:ByteArray) (w:World) (G:Marks w) (Q:s.size≤1000000000):
  Calls prog 171 #[.string s] w fun e w'=>e= .returned (.bool (pl s))∧Below w.heap.size w w':=by
 have U:=dM G
 have R:=fun(W:World)=>lD (P:=prog) W 9 46 5 s ew ee fc
 have D:=dM (fun c:Nat=>ru _ (a_ s) s.size c _ (G.below (Ld w 5 s)) (j_ s) (by omega) (pM s) (q9 w 5 s))
 have E:=dM (Ld w 5 s)
 clear G
 by_cases q:na (a_ s)=(a_ s).length
 ·have L:Hid (pl s=true):=dM (ec q)
  have N:=dM (fun c=>((D.out c).mono (R':=fun e w'=>e= .returned .nilIface∧Below w.heap.size w w') fun e w' F=>by
   rcases F with⟨_,h1,I⟩|⟨h1,_⟩
   ·exact⟨h1,E.out.trans (I.mono E.out.size)⟩
   ·exact absurd q h1))
  clear q D
  go_enter func171,ntmps171
  go_wp2_with(go_at_call 197;refine(N.out _).mono ?_;rintro e O ⟨rfl,B⟩;have M:=dM B;clear B)
  go_ret
  rw[L.out];exact⟨rfl,M.out⟩
 ·have L:Hid (pl s=false):=dM (dT q)
  have N:=dM (fun c=>((D.out c).mono (R':=fun e w'=> ∃b,e= .returned (.iface 188 (.pointer (some ⟨b,0,none⟩)))∧Below w.heap.size w w') fun e w' F=>by
   rcases F with⟨h1,_⟩|⟨_,b,h1,_,_,_,I⟩
   ·exact absurd h1 q
   ·exact⟨b,h1,E.out.trans (I.mono E.out.size)⟩))
  clear q D
  go_enter func171,ntmps171
  go_wp2_with(go_at_call 197;refine(N.out _).mono ?_;rintro e O ⟨b,rfl,B⟩;have M:=dM B;clear B)
  go_ret
  rw[L.out];exact⟨rfl,M.out⟩
def BD (kind n:Int) (s:ByteArray) (p q:Nat):Bool:=
 (decide (kind=1)||decide (kind=2)||decide (n=0))&&(decide (kind=3)||decide (s=⟨#[]⟩))&&(decide (kind=5)||decide (kind=4)||decide (p=0))&&(decide (kind=5)||decide (q=0))
theorem Hf (kind n:Int) (s:ByteArray) (p q:Nat):BD kind n s p q=((decide (kind=1)||decide (kind=2)||decide (n=0))&&(decide (kind=3)||decide (s=⟨#[]⟩))&&(decide (kind=5)||decide (kind=4)||decide (p=0))&&(decide (kind=5)||decide (q=0))):=rfl
theorem Hm {B:Nat} {w w':World} (h:Below B w w') (g o:Nat) (v:Value) (q:B≤g):Below B w (w'.setCell ⟨g,o,none⟩ v):=h.setCell (p:=⟨g,o,none⟩) q _
def qh:Option ByteArray→List ByteArray→Bool
 |_,[]=>true
 |p,t::r=>pl t&&(match p with|none=>true|some q=>Op.bytesLess q.toList t.toList)&&qh (some t) r
theorem Ic (p:Option ByteArray) (t:ByteArray) (r:List ByteArray):qh p (t::r)=(pl t&&(match p with|none=>true|some q=>Op.bytesLess q.toList t.toList)&&qh (some t) r):=by cases p<;>rfl
theorem Ez (p:Option ByteArray):qh p []=true:=by cases p<;>rfl
def D5 (kind n:Int) (s:ByteArray):Bool:=
 if kind=0 then true else if kind=1 then decide (n=0)||decide (n=1)else if kind=2 then decide (-9007199254740991≤n)&&decide (n≤9007199254740991)else if kind=3 then pl s else false
mutual
def qr:J→Int→Int→Bool×Int
 | .mk kind n s l k,d,left=>
  if left-1<0∨BD kind n s l.length k.length=false then(false,left-1)
  else if kind=5∧(k.length≠l.length∨qh none k=false)then(false,left-1)
  else if kind=4∨kind=5 then(if d≤8 then qp l (d+1) (left-1)else(false,left-1))
  else(D5 kind n s,left-1)
def qp:List J→Int→Int→Bool×Int
 |[],_,left=>(true,left)
 |x::r,d,left=>if(qr x d left).1=true then qp r d (qr x d left).2 else(false,(qr x d left).2)
end
inductive Mild:J→Prop
 |mk (kind n:Int) (s:ByteArray) (l:List J) (k:List ByteArray):s.size≤1000000000→(∀t∈k,t.size≤1000000000)→(∀x∈l,Mild x)→Mild (.mk kind n s l k)
def DO (W0:World) (cb:Nat) (r:Bool×Int) (e:Ending) (w':World):Prop:=
 e= .returned (.bool r.1)∧Below W0.heap.size W0 w'∧(r.1=true→Blk w' cb 209 [.int .i64 (256-r.2)]∧0≤r.2∧r.2≤256)
def G1 (j:J):Prop:= ∀(d left:Int) (W0 w:World) (v:Value) (cb:Nat),RepJ W0 j v→Below W0.heap.size W0 w→W0.heap.size≤cb→Blk w cb 209 [.int .i64 (256-left)]→0≤left→left≤256→1≤d→d≤9→Marks W0→
 Calls prog 145 #[.pointer (some ⟨cb,0,none⟩),v,.int .i64 d] w (DO W0 cb (qr j d left))
theorem N7 (ks:List ByteArray) (aa: ∀t∈ks,t.size≤1000000000) (v:Value) (w:World) (h:RepK w ks v) (hm:Marks w):
  Calls prog 172 #[v] w fun e w'=>e= .returned (.bool (qh none ks))∧Below w.heap.size w w':=by
 obtain⟨K,c,rfl,hl,hc⟩:=h.open
 have HC:=dM hc
 have am:=dM aa
 have HM:=dM hm
 obtain⟨n,X⟩:=yaa ks.length
 rw[←X]at hl⊢
 have HN:=dM X
 clear h hc aa hm X
 go_enter func172,ntmps172
 go_wp2
 go_loopw[7] (fun v wr=> ∃k:Nat,k≤n∧v= .int .i64 (k:Int)∧qh none ks=qh (if k=0 then none else ks[k-1]?) (ks.drop k)∧Below w.heap.size w wr) (fun v _=>n-(intOf v).toNat)
 case atStart=>exact⟨0,eN _,rfl,rfl,dU _ _⟩
 case round=>
  obtain⟨k,hk,rfl,ab,O⟩:=hrel
  have I:=dM ab
  have E:=dM O
  clear ab
  by_cases ad:k<n
  ·have M:k<ks.length:=by rw[←HN.out];exact ad
   obtain⟨b,o,rfl,hb,_,ae⟩:=HC.out k M
   have q0:=(O.cell (p:=⟨b,o+k,none⟩) hb).trans ae
   have Y:ks.drop k=ks[k]::ks.drop (k+1):=eD M
   have B:=L4 ks[k] wr (HM.out.below O) (am.out _ (fe M))
   have W:(if k+1=0 then none else ks[k+1-1]?)=some ks[k]:=by rw[dN (by omega),jr];exact dZ M
   have aq:(0:Int)≤(k:Int):=by omega
   have ah:(k:Int)<(n:Int):=by omega
   have U:0<k→ ∃p,ks[k-1]? =some p∧ ∀W',Below w.heap.size w W'→W'.cell? ⟨b,o+(k-1),none⟩=some (.string p):=fun h0=>by
    obtain⟨b',o',Z,ak,_,aj⟩:=HC.out (k-1) (by omega)
    injection Z with Z
    injection Z with e1 e2
    subst e1;subst e2
    exact⟨_,dZ (by omega),fun W' hW=>(hW.cell (p:=⟨b,o+(k-1),none⟩) ak).trans aj⟩
   obtain⟨t,ht⟩:=yaa (ks[k])
   rw[←ht]at q0 Y B W
   have af:=dM W
   have Q:=dM Y
   clear ae Y W ht
   cases hu:pl t with
   |false=>
    have D:Hid (qh none ks=false):=dM (by rw[I.out,Q.out,Ic,hu];simp)
    rw[hu]at B
    have G:=dM B
    clear hu B U
    go_wp2_with(go_at_call 171;(with_reducible refine G.out.mono ?_);rintro e R ⟨rfl,q⟩;have F:=yab E q;clear q)
    go_ret
    rw[D.out];exact⟨rfl,F.out⟩
   |true=>
    rw[hu]at B
    have G:=dM B
    by_cases N:k=0
    ·have D:Hid (qh none ks=qh (if k+1=0 then none else ks[k+1-1]?) (ks.drop (k+1))):=dM (by rw[I.out,Q.out,Ic,hu,af.out,dP N];simp)
     have ai: ¬(0:Int)<(k:Int):=by omega
     clear hu B U N
     go_wp2_with(go_at_call 171;(with_reducible refine G.out.mono ?_);rintro e R ⟨rfl,q⟩;have F:=yab E q;clear q)
     go_roundw
     case rel=>exact⟨k+1,by omega,by go_num,D.out,F.out⟩
     case measure=>simp[intOf];omega
    ·obtain⟨p,L,V⟩:=U (by omega)
     have ag:=dM V
     have ai:(0:Int)<(k:Int):=by omega
     have wk:IntKind.i64.wrap ((k:Int)-1)=((k-1:Nat):Int):=by rw[es];omega
     have ap:(0:Int)≤((k-1:Nat):Int):=by omega
     have ao:((k-1:Nat):Int)<(n:Int):=by omega
     cases hl2:Op.bytesLess p.toList t.toList with
     |true=>
      have D:Hid (qh none ks=qh (if k+1=0 then none else ks[k+1-1]?) (ks.drop (k+1))):=dM (by rw[I.out,Q.out,Ic,hu,af.out,dN N,L];simp[hl2])
      clear hu B L V
      go_wp2_with(go_at_call 171;(with_reducible refine G.out.mono ?_);rintro e R ⟨rfl,q⟩;have F:=yab E q;have q1:=ag.out _ F.out;clear q)
      go_roundw
      case rel=>exact⟨k+1,by omega,by go_num,D.out,F.out⟩
      case measure=>simp[intOf];omega
     |false=>
      have D:Hid (qh none ks=false):=dM (by rw[I.out,Q.out,Ic,hu,dN N,L];simp[hl2])
      clear hu B L V
      go_wp2_with(go_at_call 171;(with_reducible refine G.out.mono ?_);rintro e R ⟨rfl,q⟩;have F:=yab E q;have q1:=ag.out _ F.out;clear q)
      go_ret
      rw[D.out];exact⟨rfl,F.out⟩
  ·obtain rfl:k=n:=by omega
   have D:Hid (qh none ks=true):=dM (by rw[I.out,fB (by rw[←HN.out];exact dQ _)];simp[qh])
   have ah: ¬(k:Int)<(k:Int):=by omega
   clear ad O
   go_wp2
   go_ret
   rw[D.out]
   exact⟨rfl,E.out⟩
theorem sN (l:List J) (ih: ∀x∈l,G1 x) (d left:Int) (W0 w:World) (A:Option Addr) (c D:Nat) (hc:l≠[]→ ∃b o,A=some ⟨b,o,none⟩∧b<W0.heap.size∧RepC W0 b o l) (hl:l.length≤9223372036854775807) (hb:Below W0.heap.size W0 w) (ar:W0.heap.size≤D) (ak:Blk w D 209 [.int .i64 (256-left)])
  (h0:0≤left) (h1:left≤256) (d1:1≤d) (d9:d≤9) (hm:Marks W0):
  Calls prog 173 #[.pointer (some ⟨D,0,none⟩),.slice A l.length c,.int .i64 d] w (DO W0 D (qp l d left)):=by
 have HC:=dM hc
 have au:=dM ih
 have HM:=dM hm
 have HB:=dM hb
 have av:=dM ak
 obtain⟨n,U⟩:=yaa l.length
 rw[←U]at hl⊢
 have HN:=dM U
 clear hc ih hm hb ak U
 go_enter func173,ntmps173
 go_wp2
 go_loopw[11] (fun v wr=> ∃(k:Nat) (q:Int),k≤n∧v= .int .i64 (k:Int)∧qp l d left=qp (l.drop k) d q∧0≤q∧q≤256∧Blk wr D 209 [.int .i64 (256-q)]∧Below W0.heap.size W0 wr) (fun v _=>n-(intOf v).toNat)
 case atStart=>exact⟨0,left,eN _,rfl,rfl,h0,h1,av.out,HB.out⟩
 case round=>
  obtain⟨k,q,hk,rfl,ag,l0,l1,am,B⟩:=hrel
  have ao:=dM ag
  have aw:=dM B
  have ap:=dM am
  clear ag am
  by_cases ai:k<n
  ·have F:k<l.length:=by rw[←HN.out];exact ai
   obtain⟨g,o,rfl,G,ah⟩:=HC.out (fun e=>by rw[e]at F;exact absurd F (gU _))
   obtain⟨v1,E,aj⟩:=ah.at k F
   have V:l.drop k=l[k]::l.drop (k+1):=eD F
   have Y:=dM (au.out l[k] (fe F))
   obtain⟨A1,x3,c1,K1,x4,e1,rfl,z0,z1,z2,z3,z4⟩:=E.cells aj
   have af:=(B.cell (p:=⟨g,o+k*5,none⟩) G).trans z0
   have ae:=(B.cell (p:=⟨g,o+k*5+1,none⟩) G).trans z1
   have ad:=(B.cell (p:=⟨g,o+k*5+2,none⟩) G).trans z2
   have ay:=(B.cell (p:=⟨g,o+k*5+3,none⟩) G).trans z3
   have ax:=(B.cell (p:=⟨g,o+k*5+4,none⟩) G).trans z4
   obtain⟨X,hX⟩:=yaa (l[k])
   rw[←hX]at V Y E af ae ad
   obtain⟨x0,R⟩: ∃x,x=X.kind:=⟨_,rfl⟩
   obtain⟨x1,Q⟩: ∃x,x=X.n:=⟨_,rfl⟩
   obtain⟨x2,O⟩: ∃x,x=X.s:=⟨_,rfl⟩
   rw[←R,←Q,←O]at E
   rw[←R]at af
   rw[←Q]at ae
   rw[←O]at ad
   have aa:=dM (Y.out d q W0 (wr.alloc (.cells #[.int .i64 x0,.int .i64 x1,.string x2,.slice A1 x3 c1,.slice K1 x4 e1] 63)) _ D E (B.alloc B.size _) ar (ap.out.grownN (dO _ _ none)) l0 l1 d1 d9 HM.out)
   have W:Hid (qp l d left=if(qr X d q).1=true then qp (l.drop (k+1)) d (qr X d q).2 else(false,(qr X d q).2)):=dM (by rw[ao.out,V,qp])
   obtain⟨r,hr⟩:=yaa (qr X d q)
   rw[←hr]at aa W
   have az:(0:Int)≤(k:Int):=by omega
   have aq:(k:Int)<(n:Int):=by omega
   clear ah E aj z0 z1 z2 z3 z4 R Q O hX V hr B Y
   obtain⟨ok,N⟩:=r
   cases ok with
   |true=>
    have L:Hid (qp l d left=qp (l.drop (k+1)) d N):=dM (W.out.trans (dP rfl))
    go_wp2_with(go_at_call 145;(with_reducible refine aa.out.mono ?_);rintro e w1 ⟨rfl,I,M⟩;have ab:=dM I;have Z:=dM (M rfl);clear I M)
    go_roundw
    case rel=>exact⟨k+1,N,by omega,by go_num,L.out,Z.out.2.1,Z.out.2.2,Z.out.1,ab.out⟩
    case measure=>simp[intOf];omega
   |false=>
    have L:Hid (qp l d left=(false,N)):=dM (W.out.trans (dN (by simp)))
    go_wp2_with(go_at_call 145;(with_reducible refine aa.out.mono ?_);rintro e w1 ⟨rfl,I,M⟩;have ab:=dM I;clear I M)
    go_ret
    rw[L.out];exact⟨rfl,ab.out,fun h=>by cases h⟩
  ·obtain rfl:k=n:=by omega
   have L:Hid (qp l d left=(true,q)):=dM (by rw[ao.out,fB (by rw[←HN.out];exact dQ _),qp])
   have aq: ¬(k:Int)<(k:Int):=by omega
   clear ai B
   go_wp2
   go_ret
   rw[L.out]
   exact⟨rfl,aw.out,fun _=>⟨ap.out,l0,l1⟩⟩
theorem F0 (w:World) (cs:List Value) (t:TypeId):Blk (w.alloc (.cells cs.toArray t)) w.heap.size t cs:=eC w _
theorem F9 {w:World} {base n size:Nat} {e:TypeId} {v:Value} {xs:List Value} (h:w.ownsRow base e size v n xs): ∃A c,v= .slice A n c:=by
 rcases h.2 with⟨h,h0⟩|⟨g,q,B,h,_⟩
 ·exact⟨none,0,by rw[h0];exact h⟩
 ·exact⟨_,q,h⟩
structure WSt (W0 w:World) (wb:Nat) (acc:List Int) (v:Value):Prop where
 blk:Blk w wb 172 [v]
 own:w.ownsRow (wb+1) 5 1 v acc.length (c_ .u8 acc)
 bel:Below W0.heap.size W0 w
 ge:W0.heap.size≤wb
 bts:Bytes acc
def KeepJ (w w':World):Prop:=w.heap.size≤w'.heap.size∧ ∀b cs,Blk w b 63 cs→Blk w' b 63 cs
theorem KeepJ.refl (w:World):KeepJ w w:=⟨dQ _,fun _ _ h=>h⟩
theorem KeepJ.trans {a b c:World} (h:KeepJ a b) (k:KeepJ b c):KeepJ a c:=⟨dV h.1 k.1,fun x cs q=>k.2 x cs (h.2 x cs q)⟩
theorem KeepJ.grownN {a b:World} (h:a.grownBy b none):KeepJ a b:=⟨h.size,fun x cs q=>q.grownN h⟩
theorem WSt.moved {W0 w w':World} {B:Nat} {D:List Int} {v:Value} (h:WSt W0 w B D v) (q:w.grownBy w' none):WSt W0 w' B D v:=
 ⟨h.blk.grownN q,h.own.kept q (kn _),h.bel.grown q h.bel.size (fun k E=>by cases E),h.ge,h.bts⟩
theorem Cg {w:World} {base n:Nat} {v:Value} {xs:List Value} (h:w.ownsRow base 5 1 v n xs) {b:Nat} {t:TypeId} {cs:List Value} (D:Blk w b t cs) (q:t≠5):v.ownBlock≠some b:=fun e=>by
 rcases h.2 with⟨rfl,_⟩|⟨g,G,F,rfl,E,B,_⟩
 ·simp[Value.ownBlock]at e
 ·have e:g=b:=by simpa[Value.ownBlock]using e
  subst e
  have:=B.symm.trans D
  injection this with this
  injection this with _ this
  exact q this.symm
theorem WSt.more {W0 w B:World} {q:Nat} {I t:List Int} {v D:Value} (h:WSt W0 w q I v) (F:w.grownBy B v.ownBlock) (N:B.ownsRow (q+1) 5 1 D (I.length+t.length) (c_ .u8 I++c_ .u8 t)) (O:Bytes t):
  WSt W0 (B.setCell ⟨q,0,none⟩ D) q (I++t) D∧KeepJ w (B.setCell ⟨q,0,none⟩ D):=by
 have G:=ou B q 0 D
 have M:=fun k E=>(h.own.lt k E).1
 have R:Blk B q 172 [v]:=h.blk.grown F (fun e=>by have:=M _ e.symm;omega)
 refine⟨⟨R.setCell 0 D,?_,?_,h.ge,h.bts.append O⟩,dV F.size G.size,fun b cs L=> ?_⟩
 ·rw[dS,vX]
  refine N.kept G ?_
  cases hv:D.ownBlock with
  |none=>exact .inl rfl
  |some g=>exact .inr (fun e=>by injection e with e;have:=(N.lt g hv).1;omega)
 ·have U:=h.ge
  refine(h.bel.grown F h.bel.size (fun k E=> ?_)).grown G (dV h.bel.size F.size) (fun k E=> ?_)
  ·have:=M k E;omega
  ·injection E with E;omega
 ·have Q:Blk B b 63 cs:=L.grown F (fun e=>Cg h.own L (by decide) e.symm)
  exact Q.grown G (fun e=>by
   injection e with e
   subst e
   have:=L.symm.trans h.blk
   injection this with this
   injection this with _ this
   exact absurd this (by decide))
def sS (W0 w:World) (wb:Nat) (acc:List Int) (e:Ending) (w':World):Prop:=e= .returned (.tuple #[])∧(∃v,WSt W0 w' wb acc v)∧KeepJ w w'
theorem Ha (W0 w:World) (q:Nat) (B:List Int) (v:Value) (s:ByteArray) (h:WSt W0 w q B v) (Y:B.length+s.size≤140737488355328):
  Calls prog 146 #[.pointer (some ⟨q,0,none⟩),.string s] w (sS W0 w q (B++a_ s)):=by
 obtain⟨i0,hi,X,W,V⟩:=gw FO
 have L:=dM h
 have c0:w.cell? ⟨q,0,none⟩=some v:=h.blk.cell 0
 have aa:=h.blk.lt
 have ab:=h.ge
 have R:=dM h.own
 have O:s.size=(a_ s).length:=(j_ s).symm
 have Z:=dM O
 obtain⟨n,E⟩:=yaa B.length
 rw[←E]at R Y
 have HN:=dM E
 clear h O E
 go_enter func146,ntmps146
 go_wp2_with(at_builtin;refine Lib.wpList_append_own_string _ rfl _ _ 46 9 rfl (q+1) 5 i0 ee ew hi X W V v n _ rfl R.out s rfl ?c3 ?c4 ?c5 ?_)
 case c3=>unfold maxLen;omega
 case c4=>omega
 case c5=>omega
 intro U M Q F _
 have D:M.ownsRow (q+1) 5 1 U (B.length+(a_ s).length) (c_ .u8 B++c_ .u8 (a_ s)):=by
  rw[←Z.out,←HN.out,show c_ .u8 (a_ s)=Lib.strCells s by simp[Lib.strCells,c_,a_,jV,Function.comp_def]];exact Q
 have I:=dM (L.out.more F D (pM s))
 have G:Blk M q 172 [v]:=L.out.blk.grown F (fun e=>by have:=(L.out.own.lt _ e.symm).1;omega)
 have d0:=G.cell 0
 have f0:=G.frozen 0
 obtain⟨A',c',N⟩:=F9 D
 rw[N]at I⊢
 clear Q F D G N
 go_wp2
 go_end0
 exact⟨rfl,⟨_,I.out.1⟩,I.out.2⟩
theorem vl (W0 w:World) (B:Nat) (q:List Int) (v:Value) (h:WSt W0 w B q v):
  Calls prog 114 #[.pointer (some ⟨B,0,none⟩)] w fun e w'=>e= .returned (.bool (decide (4096<q.length)))∧w=w':=by
 obtain⟨A,c,rfl⟩:=F9 h.own
 have c0:w.cell? ⟨B,0,none⟩=some (.slice A q.length c):=h.blk.cell 0
 obtain⟨n,D⟩:=yaa q.length
 rw[←D]at c0⊢
 clear h D
 go_enter func114,ntmps114
 go_wp2
 go_ret
 have E:decide ((4096:Int)<(n:Int))=decide (4096<n):=by
  by_cases h:4096<n
  ·rw[ec h];exact ec (by omega)
  ·rw[dT h];exact dT (by omega)
 exact⟨eH (fun b=>Ending.returned (.bool b)) E,rfl⟩
def Wr (acc t acc':List Int):Prop:=acc'=acc++t∨(4096<acc'.length∧4096<acc.length+t.length∧acc'.length≤acc.length+t.length)
theorem Wr.len {B t q:List Int} (h:Wr B t q):q.length≤B.length+t.length:=by
 rcases h with rfl|⟨_,_,h⟩
 ·rw[dS];exact dQ _
 ·exact h
theorem Wr.trans {a t b u c:List Int} (h:Wr a t b) (k:Wr b u c):Wr a (t++u) c:=by
 have E:=h.len
 have kl:=k.len
 have e:(t++u).length=t.length+u.length:=dS
 rcases h with rfl|⟨h1,G,F⟩
 ·rcases k with rfl|⟨q,D,B⟩
  ·exact .inl (by rw[fw])
  ·rw[dS]at D B
   exact .inr ⟨q,by omega,by omega⟩
 ·rcases k with rfl|⟨q,D,B⟩
  ·refine .inr ⟨?_,by omega,by omega⟩
   rw[dS];omega
  ·exact .inr ⟨q,by omega,by omega⟩
theorem An (l:List Int) {k n:Nat} (h:k≤n):(ph l k).length≤(ph l n).length:=by
 induction n with
 |zero=>rw[mi.1 h];exact dQ _
 |succ n ih=>
  by_cases e:k=n+1
  ·rw[e];exact dQ _
  ·have:=ih (by omega)
   rw[ph,dS];omega
theorem Bq: ∀i:Fin 32,bits .and .u8 (i.val:Int) 15=(i.val:Int)%16:=by decide+kernel
theorem Jd (c:Int) (h0:0≤c) (h1:c<32):bits .and .u8 c 15=c%16:=by
 have:=Bq ⟨c.toNat,by omega⟩
 rwa [show(((⟨c.toNat,by omega⟩:Fin 32).val:Nat):Int)=c from by show((c.toNat:Nat):Int)=c;omega]at this
theorem xv {c:Int} (h0:0≤c) (h1:c≤255):Bytes (oZ c):=by
 refine .of_mem fun x q=> ?_
 unfold oZ at q
 split at q
 ·have D:c/16<10:=by omega
  have B:0≤c/16∧0≤c%16∧c%16<16:=by omega
  unfold pC at q
  simp only[eF,fx,je]at q
  rcases q with rfl|rfl|rfl|rfl|rfl|rfl<;>(try omega)<;>(split<;>omega)
 ·split at q
  ·simp only[eF,fx,je]at q
   rcases q with rfl|rfl<;>omega
  ·simp only[eF,fx,je]at q
   rcases q with rfl;omega
theorem MP (W0 w:World) (q:Nat) (ad:List Int) (v:Value) (s:ByteArray) (h:WSt W0 w q ad v) (hs:s.size≤1000000000) (bQ:ad.length≤100000000000000):
  Calls prog 149 #[.pointer (some ⟨q,0,none⟩),.string s] w fun e w'=> ∃aM,Wr ad (pX (a_ s)) aM∧sS W0 w q aM e w':=by
 obtain⟨i0,hi,aj,ai,ah⟩:=gw FO
 have bK:=dM (Ha W0 w q ad v ⟨#[34]⟩ h (by show ad.length+1≤_;omega))
 have aO:=dM (j_ s)
 clear h
 go_enter func149,ntmps149
 go_wp2_with(go_at_call 146;(with_reducible refine bK.out.mono ?_);rintro e w1 ⟨rfl,hw,hk⟩;have bI:=dM hw;have bL:=dM hk;clear hw hk)
 go_loopw[4] (fun u wr=> ∃k:Nat,k≤s.size∧u= .int .i64 (k:Int)∧(∃M,WSt W0 wr q (ad++ph (a_ s) k) M)∧KeepJ w wr) (fun u _=>s.size-(intOf u).toNat)
 case atStart=>exact⟨0,eN _,rfl,bI.out,bL.out⟩
 case round=>
  obtain⟨k,hk,rfl,⟨M,hI⟩,hKJ⟩:=hrel
  obtain⟨B,aw⟩: ∃x,x=ad++ph (a_ s) k:=⟨_,rfl⟩
  rw[←aw]at hI
  have aH:=dM aw
  have W:=dM hI
  have ak:=dM hKJ
  have au:=dM hI.own
  have p0:wr.cell? ⟨q,0,none⟩=some M:=hI.blk.cell 0
  have bP:=hI.blk.lt
  have bq:=uh (a_ s) k
  have aJ:B.length=ad.length+(ph (a_ s) k).length:=by rw[aw,dS]
  obtain⟨n,hn⟩:=yaa B.length
  rw[←hn]at au aJ
  have HN:=dM hn
  have bO:n≤110000000000000:=by omega
  have Y:=dM (vl W0 wr q B M hI)
  have aN:=dM (Ha W0 wr q B M ⟨#[34]⟩ hI (by rw[←hn];show n+1≤_;omega))
  clear hI hKJ aw hn aJ bq
  by_cases aI:k<s.size
  ·have bx:(k:Int)<(s.size:Int):=by omega
   have bR:(0:Int)≤(k:Int):=by omega
   by_cases aC:4096<B.length
   ·have aD:decide (4096<B.length)=true:=ec aC
    rw[aD]at Y
    go_wp2_with(first|(go_at_call 114;(with_reducible refine Y.out.mono ?_);rintro e w' ⟨rfl,rfl⟩)|(go_at_call 146;(with_reducible refine aN.out.mono ?_);rintro e w' ⟨rfl,hw,hk⟩;have HF:=dM (And.intro hw hk);clear hw hk))
    go_end0
    refine⟨B++a_ ⟨#[34]⟩,.inr ?_,rfl,HF.out.1,ak.out.trans HF.out.2⟩
    have hm:=An (a_ s) (Nat.le_of_lt aI)
    have bB:=eH List.length aH.out
    rw[dS]at bB
    have bC:(a_ (⟨#[34]⟩:ByteArray)).length=1:=by rw[j_];rfl
    have bp:(pX (a_ s)).length=(ph (a_ s) s.size).length+1:=by rw[pX,aO.out,dS];rfl
    rw[dS,bC,bp]
    omega
   ·have aD:decide (4096<B.length)=false:=dT aC
    rw[aD]at Y
    have HG:=dM (o_ s k aI)
    obtain⟨c,O⟩: ∃c:Int,c=(s[k].toNat:Int):=⟨_,rfl⟩
    have bz:0≤c∧c≤255:=by rw[O];have:=(s[k]).toNat_lt;omega
    have ax:Hid (ad++ph (a_ s) (k+1)=B++oZ c):=dM (by rw[ph,HG.out,←O,aH.out,fw])
    obtain⟨c0,c1⟩:=bz
    have aP:=dM (xv c0 c1)
    clear aC
    by_cases ae:c<32
    ·have HE:Hid (oZ c=[92,117,48,48,pC (c/16),pC (c%16)]):=dM (by unfold oZ;rw[dP ae])
     have bS:(s[k].toNat:Int)=c:=O.symm
     have bs:0≤c/16:=by omega
     have br:c/16<16:=by omega
     have bo:0≤c%16:=by omega
     have bn:c%16<16:=by omega
     have bN:IntKind.u8.wrap (c/16)=c/16:=by rw[iz];omega
     have bM:IntKind.u8.wrap (c%16)=c%16:=by rw[iz];omega
     have aq:Hid ((c/16).toNat<((⟨#[48,49,50,51,52,53,54,55,56,57,97,98,99,100,101,102]⟩:ByteArray)).size):=dM (by show _<16;omega)
     have ap:Hid ((c%16).toNat<((⟨#[48,49,50,51,52,53,54,55,56,57,97,98,99,100,101,102]⟩:ByteArray)).size):=dM (by show _<16;omega)
     have bJ:Hid (c_ .u8 [92,117,48,48,pC (c/16),pC (c%16)]=[.int .u8 92,.int .u8 117,.int .u8 48,.int .u8 48,.int .u8 ((⟨#[48,49,50,51,52,53,54,55,56,57,97,98,99,100,101,102]⟩:ByteArray)[(c/16).toNat]'(aq.out)).toNat,.int .u8 ((⟨#[48,49,50,51,52,53,54,55,56,57,97,98,99,100,101,102]⟩:ByteArray)[(c%16).toNat]'(ap.out)).toNat]):=dM (by rw[←uR _ bs br,←uR _ bo bn];rfl)
     have bl:wr.drew.cell? ⟨q,0,none⟩=some M:=p0
     clear O
     go_wp2_with(go_at_call 114;(with_reducible refine Y.out.mono ?_);rintro e w' ⟨rfl,rfl⟩)
     have av:Hid (wr.grownBy ((wr.drew).alloc (.cells #[.int .u8 92,.int .u8 117,.int .u8 48,.int .u8 48,.int .u8 ((⟨#[48,49,50,51,52,53,54,55,56,57,97,98,99,100,101,102]⟩:ByteArray)[(c/16).toNat]'(aq.out)).toNat,.int .u8 ((⟨#[48,49,50,51,52,53,54,55,56,57,97,98,99,100,101,102]⟩:ByteArray)[(c%16).toNat]'(ap.out)).toNat] 5)) none):=dM ((nx (ov wr none)).trans (dO _ _ none))
     have bk:((wr.drew).alloc (.cells #[.int .u8 92,.int .u8 117,.int .u8 48,.int .u8 48,.int .u8 ((⟨#[48,49,50,51,52,53,54,55,56,57,97,98,99,100,101,102]⟩:ByteArray)[(c/16).toNat]'(aq.out)).toNat,.int .u8 ((⟨#[48,49,50,51,52,53,54,55,56,57,97,98,99,100,101,102]⟩:ByteArray)[(c%16).toNat]'(ap.out)).toNat] 5)).cell? ⟨q,0,none⟩=some M:=BT p0 av.out
     have bT:bits .and .u8 c 15=c%16:=Jd c c0 ae
     go_region_law(first
      |(refine fX _ (by rfl) _ _ _ (by rfl) (q+1) 5 i0 (.int .u8 0) 1 1 ee hi aj ai ah rfl (by omega) M n (c_ .u8 B) (by rfl) (au.out.kept av.out (kn _)) ⟨wr.heap.size,0,none⟩ 6 6 [.int .u8 92,.int .u8 117,.int .u8 48,.int .u8 48,.int .u8 ((⟨#[48,49,50,51,52,53,54,55,56,57,97,98,99,100,101,102]⟩:ByteArray)[(c/16).toNat]'(aq.out)).toNat,.int .u8 ((⟨#[48,49,50,51,52,53,54,55,56,57,97,98,99,100,101,102]⟩:ByteArray)[(c%16).toNat]'(ap.out)).toNat] (by rfl) (by rfl) (eU (cs:= #[.int .u8 92,.int .u8 117,.int .u8 48,.int .u8 48,.int .u8 ((⟨#[48,49,50,51,52,53,54,55,56,57,97,98,99,100,101,102]⟩:ByteArray)[(c/16).toNat]'(aq.out)).toNat,.int .u8 ((⟨#[48,49,50,51,52,53,54,55,56,57,97,98,99,100,101,102]⟩:ByteArray)[(c%16).toNat]'(ap.out)).toNat]) (t:=5) (fr:=(0,0)) (eC wr.drew _)) (by simp[Value.oneCell']) (by omega) (by unfold maxLen;omega) (by omega) (by simp;omega) (wr.heap.size+1) (by simp) ?_
        intro gg bH Q L E bA bw
        have F:Blk Q q 172 [M]:=(W.out.blk.grownN av.out).grown E (fun e=>by have:=(W.out.own.lt _ e.symm).1;omega)
        have d2:=F.cell 0
        have f2:=F.frozen 0
        clear F
        try go_frame))
     all_goals
      have I:Q.ownsRow (q+1) 5 1 (.slice (some ⟨gg,0,none⟩) (n+6) bH) (B.length+([92,117,48,48,pC (c/16),pC (c%16)]:List Int).length) (c_ .u8 B++c_ .u8 [92,117,48,48,pC (c/16),pC (c%16)]):=by rw[←HN.out,bJ.out];exact L
      have G:=(W.out.moved av.out).more E I (by have:=aP.out;rwa [HE.out]at this)
      have HM:=dM (And.intro G.1 ((KeepJ.grownN av.out).trans G.2))
      clear L E bA bw I G d2 f2 p0 bl bk
      go_wp2
      go_roundw
      case rel=>exact⟨k+1,by omega,by go_num,⟨_,by rw[ax.out,HE.out];exact HM.out.1⟩,ak.out.trans HM.out.2⟩
      case measure=>simp[intOf];omega
    ·by_cases X:c=34∨c=92
     ·have HE:Hid (oZ c=[92,c]):=dM (by unfold oZ;rw[dN ae,dP X])
      have bu: ¬(s[k].toNat:Int)<32:=by rw[←O];exact ae
      have ay:=dM O
      rw[O]at X
      have ar:Bytes [(s[k].toNat:Int)]:= .of_mem fun y hy=>by rw[eh.1 hy,←O];exact⟨c0,c1⟩
      have az:=dM ar
      have bm:((s[k].toNat:Int)==34)=true∨((s[k].toNat:Int)==34)=false∧((s[k].toNat:Int)==92)=true:=by
       rcases X with X|X
       ·exact .inl (by rw[gm];exact X)
       ·exact .inr ⟨by rw[X];rfl,by rw[gm];exact X⟩
      clear X O ae c0 c1 ar
      rcases bm with n1|⟨n1,n2⟩
      ·skip
       go_wp2_with(first|(go_at_call 114;(with_reducible refine Y.out.mono ?_);rintro e w' ⟨rfl,rfl⟩)|(at_builtin;refine fm _ rfl _ _ 46 rfl (q+1) 5 i0 (.int .u8 0) 1 1 ee hi aj ai ah rfl (by decide) M n _ rfl (au.out.alloc _) ⟨wr.heap.size,0,none⟩ 1 1 [.int .u8 92] rfl rfl ?bj ?bi ?bh ?bg ?bf ?_))
       case bj=>exact fR _ _ _
       case bi=>first|rfl|(intro u hu;rw[eh.1 hu];rfl)
       case bh=>unfold maxLen;omega
       case bg=>omega
       case bf=>first|omega|(simp;omega)
       intro v2 Q L E _
       have D:=dO wr (.cells #[.int .u8 92] 5) none
       have I:Q.ownsRow (q+1) 5 1 v2 (B.length+([92]:List Int).length) (c_ .u8 B++c_ .u8 [92]):=by rw[←HN.out];exact L
       have G:=(W.out.moved D).more E I (.of_mem (by decide))
       have F:Blk Q q 172 [M]:=(W.out.moved D).blk.grown E (fun e=>by have:=(W.out.own.lt _ e.symm).1;omega)
       have U:=dM (And.intro G.1 ((KeepJ.grownN D).trans G.2))
       have bG:=F.cell 0
       have bE:=F.frozen 0
       obtain⟨aR,aL,N⟩:=F9 I
       rw[N]at U⊢
       clear L E D I G F N
       clear p0
       go_upto_region 10 with fail
       clear bG bE
       obtain⟨R,af⟩: ∃z,z=Value.slice aR (B.length+([92]:List Int).length) aL:=⟨_,rfl⟩
       have ao:R=Value.slice aR (B.length+1) aL:=by rw[af];rfl
       rw[←af]at U
       rw[←ao]
       obtain⟨Z,am⟩: ∃z,z=Q.setCell ⟨q,0,none⟩ R:=⟨_,rfl⟩
       rw[←am]at U⊢
       obtain⟨AZ,ab⟩: ∃z,z=B++[92]:=⟨_,rfl⟩
       rw[←ab]at U
       have V:=dM U.out.1
       have aG:=dM ab
       obtain⟨nz,aa⟩: ∃z,z=AZ.length:=⟨_,rfl⟩
       have aB:nz=n+1:=by rw[aa,ab,dS,←HN.out];rfl
       have aF:=dM aa
       have aE:Hid (Z.ownsRow (q+1) 5 1 R nz (c_ .u8 AZ)):=dM (by rw[aa];exact V.out.own)
       have bv:=V.out.blk.lt
       have aA:Z.cell? ⟨q,0,none⟩=some R:=V.out.blk.cell 0
       have bt:nz≤110000000000001:=by omega
       clear am ab aa aB af ao
       go_wp2_with(first|(go_at_call 114;(with_reducible refine Y.out.mono ?_);rintro e w' ⟨rfl,rfl⟩)|(at_builtin;refine fm _ rfl _ _ 46 rfl (q+1) 5 i0 (.int .u8 0) 1 1 ee hi aj ai ah rfl (by decide) R nz _ rfl (aE.out.alloc _) ⟨Z.heap.size,0,none⟩ 1 1 [.int .u8 (s[k].toNat:Int)] rfl rfl ?bd ?bc ?bb ?ba ?a8 ?_))
       case bd=>exact fR _ _ _
       case bc=>first|rfl|(intro u hu;rw[eh.1 hu];rfl)
       case bb=>unfold maxLen;omega
       case ba=>omega
       case a8=>first|omega|(simp;omega)
       intro v3 w3 L E _
       have D:=dO Z (.cells #[.int .u8 (s[k].toNat:Int)] 5) none
       have I:w3.ownsRow (q+1) 5 1 v3 (AZ.length+([(s[k].toNat:Int)]:List Int).length) (c_ .u8 AZ++c_ .u8 [(s[k].toNat:Int)]):=by rw[←aF.out];exact L
       have G:=(V.out.moved D).more E I (az.out)
       have F:Blk w3 q 172 [R]:=(V.out.moved D).blk.grown E (fun e=>by have:=(V.out.own.lt _ e.symm).1;omega)
       have ag:=dM (And.intro G.1 ((KeepJ.grownN D).trans G.2))
       have bX:=F.cell 0
       have bV:=F.frozen 0
       obtain⟨b1,bZ,N⟩:=F9 I
       rw[N]at ag⊢
       clear L E D I G F N
       clear aA
       go_wp2
       go_roundw
       case rel=>exact⟨k+1,by omega,by go_num,⟨_,by rw[ax.out,HE.out,ay.out,show B++[92,(s[k].toNat:Int)]=(B++[92])++[(s[k].toNat:Int)]by simp,←aG.out];exact ag.out.1⟩,(ak.out.trans U.out.2).trans ag.out.2⟩
       case measure=>simp[intOf];omega
      ·skip
       go_wp2_with(first|(go_at_call 114;(with_reducible refine Y.out.mono ?_);rintro e w' ⟨rfl,rfl⟩)|(at_builtin;refine fm _ rfl _ _ 46 rfl (q+1) 5 i0 (.int .u8 0) 1 1 ee hi aj ai ah rfl (by decide) M n _ rfl (au.out.alloc _) ⟨wr.heap.size,0,none⟩ 1 1 [.int .u8 92] rfl rfl ?a7 ?a6 ?aZ ?aY ?aX ?_))
       case a7=>exact fR _ _ _
       case a6=>first|rfl|(intro u hu;rw[eh.1 hu];rfl)
       case aZ=>unfold maxLen;omega
       case aY=>omega
       case aX=>first|omega|(simp;omega)
       intro v2 Q L E _
       have D:=dO wr (.cells #[.int .u8 92] 5) none
       have I:Q.ownsRow (q+1) 5 1 v2 (B.length+([92]:List Int).length) (c_ .u8 B++c_ .u8 [92]):=by rw[←HN.out];exact L
       have G:=(W.out.moved D).more E I (.of_mem (by decide))
       have F:Blk Q q 172 [M]:=(W.out.moved D).blk.grown E (fun e=>by have:=(W.out.own.lt _ e.symm).1;omega)
       have U:=dM (And.intro G.1 ((KeepJ.grownN D).trans G.2))
       have bF:=F.cell 0
       have bD:=F.frozen 0
       obtain⟨aQ,aK,N⟩:=F9 I
       rw[N]at U⊢
       clear L E D I G F N
       clear p0
       go_upto_region 10 with fail
       clear bF bD
       obtain⟨R,af⟩: ∃z,z=Value.slice aQ (B.length+([92]:List Int).length) aK:=⟨_,rfl⟩
       have ao:R=Value.slice aQ (B.length+1) aK:=by rw[af];rfl
       rw[←af]at U
       rw[←ao]
       obtain⟨Z,am⟩: ∃z,z=Q.setCell ⟨q,0,none⟩ R:=⟨_,rfl⟩
       rw[←am]at U⊢
       obtain⟨AZ,ab⟩: ∃z,z=B++[92]:=⟨_,rfl⟩
       rw[←ab]at U
       have V:=dM U.out.1
       have aG:=dM ab
       obtain⟨nz,aa⟩: ∃z,z=AZ.length:=⟨_,rfl⟩
       have aB:nz=n+1:=by rw[aa,ab,dS,←HN.out];rfl
       have aF:=dM aa
       have aE:Hid (Z.ownsRow (q+1) 5 1 R nz (c_ .u8 AZ)):=dM (by rw[aa];exact V.out.own)
       have bv:=V.out.blk.lt
       have aA:Z.cell? ⟨q,0,none⟩=some R:=V.out.blk.cell 0
       have bt:nz≤110000000000001:=by omega
       clear am ab aa aB af ao
       go_wp2_with(first|(go_at_call 114;(with_reducible refine Y.out.mono ?_);rintro e w' ⟨rfl,rfl⟩)|(at_builtin;refine fm _ rfl _ _ 46 rfl (q+1) 5 i0 (.int .u8 0) 1 1 ee hi aj ai ah rfl (by decide) R nz _ rfl (aE.out.alloc _) ⟨Z.heap.size,0,none⟩ 1 1 [.int .u8 (s[k].toNat:Int)] rfl rfl ?aW ?aV ?aU ?aT ?aS ?_))
       case aW=>exact fR _ _ _
       case aV=>first|rfl|(intro u hu;rw[eh.1 hu];rfl)
       case aU=>unfold maxLen;omega
       case aT=>omega
       case aS=>first|omega|(simp;omega)
       intro v3 w3 L E _
       have D:=dO Z (.cells #[.int .u8 (s[k].toNat:Int)] 5) none
       have I:w3.ownsRow (q+1) 5 1 v3 (AZ.length+([(s[k].toNat:Int)]:List Int).length) (c_ .u8 AZ++c_ .u8 [(s[k].toNat:Int)]):=by rw[←aF.out];exact L
       have G:=(V.out.moved D).more E I (az.out)
       have F:Blk w3 q 172 [R]:=(V.out.moved D).blk.grown E (fun e=>by have:=(V.out.own.lt _ e.symm).1;omega)
       have ag:=dM (And.intro G.1 ((KeepJ.grownN D).trans G.2))
       have bW:=F.cell 0
       have bU:=F.frozen 0
       obtain⟨b0,bY,N⟩:=F9 I
       rw[N]at ag⊢
       clear L E D I G F N
       clear aA
       go_wp2
       go_roundw
       case rel=>exact⟨k+1,by omega,by go_num,⟨_,by rw[ax.out,HE.out,ay.out,show B++[92,(s[k].toNat:Int)]=(B++[92])++[(s[k].toNat:Int)]by simp,←aG.out];exact ag.out.1⟩,(ak.out.trans U.out.2).trans ag.out.2⟩
       case measure=>simp[intOf];omega
     ·have n1:(c==34)=false:=by rw[dY];omega
      have n2:(c==92)=false:=by rw[dY];omega
      have HE:Hid (oZ c=[c]):=dM (by unfold oZ;rw[dN ae,dN X])
      have bu: ¬(s[k].toNat:Int)<32:=by rw[←O];exact ae
      have ay:=dM O
      rw[O]at n1 n2
      have ar:Bytes [(s[k].toNat:Int)]:=by have:=aP.out;rw[HE.out,O]at this;exact this
      have az:=dM ar
      clear X O ae c0 c1 ar
      go_wp2_with(first|(go_at_call 114;(with_reducible refine Y.out.mono ?_);rintro e w' ⟨rfl,rfl⟩)|(at_builtin;refine fm _ rfl _ _ 46 rfl (q+1) 5 i0 (.int .u8 0) 1 1 ee hi aj ai ah rfl (by decide) M n _ rfl (au.out.alloc _) ⟨wr.heap.size,0,none⟩ 1 1 [.int .u8 (s[k].toNat:Int)] rfl rfl ?z1 ?z2 ?z3 ?z4 ?z5 ?_))
      case z1=>exact fR _ _ _
      case z2=>first|rfl|(intro u hu;rw[eh.1 hu];rfl)
      case z3=>unfold maxLen;omega
      case z4=>omega
      case z5=>first|omega|(simp;omega)
      intro v2 Q L E _
      have D:=dO wr (.cells #[.int .u8 (s[k].toNat:Int)] 5) none
      have I:Q.ownsRow (q+1) 5 1 v2 (B.length+([(s[k].toNat:Int)]:List Int).length) (c_ .u8 B++c_ .u8 [(s[k].toNat:Int)]):=by rw[←HN.out];exact L
      have G:=(W.out.moved D).more E I (az.out)
      have F:Blk Q q 172 [M]:=(W.out.moved D).blk.grown E (fun e=>by have:=(W.out.own.lt _ e.symm).1;omega)
      have HM:=dM (And.intro G.1 ((KeepJ.grownN D).trans G.2))
      have d0:=F.cell 0
      have f0:=F.frozen 0
      obtain⟨A2,c2,N⟩:=F9 I
      rw[N]at HM⊢
      clear L E D I G F N p0
      go_wp2
      go_roundw
      case rel=>exact⟨k+1,by omega,by go_num,⟨_,by rw[ax.out,HE.out,ay.out];exact HM.out.1⟩,ak.out.trans HM.out.2⟩
      case measure=>simp[intOf];omega
  ·obtain rfl:k=s.size:=by omega
   have bx: ¬(s.size:Int)<(s.size:Int):=by omega
   go_wp2_with(first|(go_at_call 114;(with_reducible refine Y.out.mono ?_);rintro e w' ⟨rfl,rfl⟩)|(go_at_call 146;(with_reducible refine aN.out.mono ?_);rintro e w' ⟨rfl,hw,hk⟩;have HF:=dM (And.intro hw hk);clear hw hk))
   go_end0
   refine⟨B++a_ ⟨#[34]⟩,.inl ?_,rfl,HF.out.1,ak.out.trans HF.out.2⟩
   rw[aH.out,pX,aO.out,fw]
   rfl
end Go.Proofs.YtceddodfddlncaaGreatDoor
namespace Go.Proofs.YtceddodfddlncaaGreatDoor
open Go Tryz
inductive Rt:J→Prop
 |mk (kind n:Int) (s:ByteArray) (l:List J) (k:List ByteArray):BD kind n s l.length k.length=true→(kind=5→k.length=l.length∧qh none k=true)→(kind=4∨kind=5∨D5 kind n s=true)→(∀x∈l,Rt x)→Rt (.mk kind n s l k)
mutual
def pZ:J→Nat
 | .mk _ _ _ l _=>1+nt l
def nt:List J→Nat
 |[]=>0
 |x::r=>pZ x+nt r
end
mutual
def v8:J→Nat
 | .mk kind _ _ l _=>if kind=4∨kind=5 then 1+sF l else 0
def sF:List J→Nat
 |[]=>0
 |x::r=>max (v8 x) (sF r)
end
theorem tF: ∀(a b:List J),nt (a++b)=nt a+nt b
 |[],b=>by rw[fs,nt,eL]
 |x::a,b=>by rw[ff,nt,nt,tF a b,ln]
theorem zn {d:Nat}: ∀(l:List J),sF l≤d↔ ∀x∈l,v8 x≤d
 |[]=>by rw[sF];simp
 |x::r=>by
  rw[sF,Nat.max_le,zn r]
  simp
theorem zS {a b:List J} (h:a.Perm b):nt a=nt b:=by
 induction h with
 |nil=>rfl
 |cons x _ ih=>rw[nt,nt,ih]
 |swap x y l=>rw[nt,nt,nt,nt];omega
 |trans _ _ h1 h2=>rw[h1,h2]
theorem yS (j:J):1≤pZ j:=by cases j;rw[pZ];omega
theorem AI {kind n:Int} {s:ByteArray} (h:D5 kind n s=true):kind=0∨kind=1∨kind=2∨kind=3:=by
 unfold D5 at h
 by_cases h0:kind=0
 ·exact .inl h0
 by_cases h1:kind=1
 ·exact .inr (.inl h1)
 by_cases B:kind=2
 ·exact .inr (.inr (.inl B))
 by_cases q:kind=3
 ·exact .inr (.inr (.inr q))
 rw[dN h0,dN h1,dN B,dN q]at h
 cases h
theorem Fh {kind n:Int} {s:ByteArray} {p q:Nat} (h:BD kind n s p q=true) (D:kind≠4) (B:kind≠5):p=0∧q=0:=by
 rw[Hf]at h
 simp only[fb,jx,eb]at h
 omega
theorem Fg {kind n:Int} {s:ByteArray} {p q:Nat} (h:BD kind n s p q=true) (B:kind≠5):q=0:=by
 rw[Hf]at h
 simp only[fb,jx,eb]at h
 omega
theorem EA (j:J): ∀(d left:Int),1≤d→d≤9→0≤left→((qr j d left).1=true↔Rt j∧(pZ j:Int)≤left∧d-1+(v8 j:Int)≤8)∧((qr j d left).1=true→(qr j d left).2=left-(pZ j:Int)):=by
 induction j using J.ind with
 |h kind n s l k E=>
  intro d left G F h0
  have Q: ∀(l:List J),(∀x∈l,∀(d left:Int),1≤d→d≤9→0≤left→((qr x d left).1=true↔Rt x∧(pZ x:Int)≤left∧d-1+(v8 x:Int)≤8)∧((qr x d left).1=true→(qr x d left).2=left-(pZ x:Int)))→
    ∀(d left:Int),1≤d→d≤9→0≤left→((qp l d left).1=true↔(∀x∈l,Rt x)∧(nt l:Int)≤left∧d-1+(sF l:Int)≤8)∧((qp l d left).1=true→(qp l d left).2=left-(nt l:Int)):=fun l=>by
   induction l with
   |nil=>
    intro _ d left G F h0
    rw[qp,nt,sF]
    refine⟨⟨fun _=>⟨fun x M=>(by cases M),by simpa using h0,by simp;omega⟩,fun _=>rfl⟩,fun _=>by simp⟩
   |cons x r ihr=>
    intro E d left G F h0
    obtain⟨L,R⟩:=E x (by simp) d left G F h0
    rw[qp,nt,sF]
    cases hb:(qr x d left).1 with
    |false=>
     rw[dN (by simp)]
     rw[hb]at L
     refine⟨⟨fun h=>(by cases h),fun⟨h1,B,q⟩=> ?_⟩,fun h=>(by cases h)⟩
     exact L.2 ⟨h1 x (by simp),by omega,by omega⟩
    |true=>
     rw[dP rfl]
     obtain⟨Z,e2,e3⟩:=L.1 hb
     have Y:=R hb
     rw[Y]
     obtain⟨D,I⟩:=ihr (fun y hy=>E y (eE _ hy)) d (left-pZ x) G F (by omega)
     refine⟨⟨fun h=> ?_,fun⟨h1,B,q⟩=> ?_⟩,fun h=>by rw[I h];omega⟩
     ·obtain⟨g1,X,g3⟩:=D.1 h
      refine⟨fun y hy=> ?_,by omega,by omega⟩
      rcases eF.1 hy with rfl|hy
      ·exact Z
      ·exact g1 y hy
     ·exact D.2 ⟨fun y hy=>h1 y (eE _ hy),by omega,by omega⟩
  rw[qr,pZ,v8]
  by_cases c1:left-1<0∨BD kind n s l.length k.length=false
  ·rw[dP c1]
   refine⟨⟨fun h=>(by cases h),fun⟨h1,B,q⟩=> ?_⟩,fun h=>by cases h⟩
   rcases c1 with c1|c1
   ·omega
   ·cases h1 with|mk _ _ _ _ _ a1 a2 a3 a4=>rw[c1]at a1;cases a1
  rw[dN c1]
  have N:BD kind n s l.length k.length=true:=by
   cases h:BD kind n s l.length k.length with
   |true=>rfl
   |false=>exact absurd (.inr h) c1
  by_cases c2:kind=5∧(k.length≠l.length∨qh none k=false)
  ·rw[dP c2]
   refine⟨⟨fun h=>(by cases h),fun⟨h1,B,q⟩=> ?_⟩,fun h=>by cases h⟩
   cases h1 with
   |mk _ _ _ _ _ a1 a2 a3 a4=>
    obtain⟨b1,b2⟩:=a2 c2.1
    rcases c2.2 with c|c
    ·exact absurd b1 c
    ·rw[b2]at c;cases c
  rw[dN c2]
  have O:kind=5→k.length=l.length∧qh none k=true:=fun h=>by
   refine⟨Decidable.byContradiction fun U=>c2 ⟨h,.inl U⟩,?_⟩
   cases hr:qh none k with
   |true=>rfl
   |false=>exact absurd ⟨h,.inr hr⟩ c2
  by_cases c3:kind=4∨kind=5
  ·rw[dP c3,dP c3]
   by_cases c4:d≤8
   ·rw[dP c4]
    obtain⟨D,I⟩:=Q l E (d+1) (left-1) (by omega) (by omega) (by omega)
    refine⟨⟨fun h=> ?_,fun⟨h1,B,q⟩=> ?_⟩,fun h=>by rw[I h];omega⟩
    ·obtain⟨g1,X,g3⟩:=D.1 h
     exact⟨.mk kind n s l k N O (c3.imp_right .inl) g1,by omega,by omega⟩
    ·cases h1 with|mk _ _ _ _ _ a1 a2 a3 a4=>exact D.2 ⟨a4,by omega,by omega⟩
   ·rw[dN c4]
    refine⟨⟨fun h=>(by cases h),fun⟨h1,B,q⟩=> ?_⟩,fun h=>by cases h⟩
    omega
  ·rw[dN c3,dN c3]
   have V:=Fh N (fun h=>c3 (.inl h)) (fun h=>c3 (.inr h))
   have W:l=[]:=ea V.1
   subst W
   rw[nt]
   refine⟨⟨fun h=>⟨.mk kind n s [] k N O (.inr (.inr h)) (fun x M=>(by cases M)),by omega,by omega⟩,fun⟨h1,B,q⟩=> ?_⟩,fun _=>by simp⟩
   cases h1 with
   |mk _ _ _ _ _ a1 a2 a3 a4=>
    rcases a3 with a|a|a
    ·exact absurd (.inl a) c3
    ·exact absurd (.inr a) c3
    ·exact a
theorem KU (j:J):(qr j 1 256).1=true↔Rt j∧pZ j≤256∧v8 j≤8:=by
 rw[(EA j 1 256 (by decide) (by decide) (by decide)).1]
 constructor
 ·rintro⟨a,b,c⟩;exact⟨a,by omega,by omega⟩
 ·rintro⟨a,b,c⟩;exact⟨a,by omega,by omega⟩
end Go.Proofs.YtceddodfddlncaaGreatDoor
