
import Derived.Deep.Cut
import Derived.Deep.CutBlock
import Derived.Deep.CutRange
import Derived.Test.YtceddodfddlncaaGreatDoorJv30
set_option maxRecDepth 100000
set_option maxHeartbeats 16000000
set_option linter.all false
namespace Go.Proofs.YtceddodfddlncaaGreatDoor
open Go Go.RowKit Tryz
def gF:=@underlying61
theorem Nl: ∀l:List UInt8,Op.bytesLess l l=false
 |[]=>rfl
 |a::r=>by rw[Op.bytesLess,Nl r];simp
theorem xx {K:List ByteArray} {L:List J} {j:Nat} (t:ByteArray) (x:J) (d:Bool) (h1:j<K.length) (q:j<L.length):
  nF t x d (K.drop j) (L.drop j)=((if d=false∧Op.bytesLess K[j].toList t.toList=false then[t]else[])++(if K[j]=t then[]else[K[j]])++(nF t x (d|| !Op.bytesLess K[j].toList t.toList) (K.drop (j+1)) (L.drop (j+1))).1,
   (if d=false∧Op.bytesLess K[j].toList t.toList=false then[x]else[])++(if K[j]=t then[]else[L[j]])++(nF t x (d|| !Op.bytesLess K[j].toList t.toList) (K.drop (j+1)) (L.drop (j+1))).2):=by
 rw[eD h1,eD q,nF]
 simp only[List.tail_cons,List.headD_cons]
 split<;>split<;>rfl
def vV (W:World) (S:Nat→Prop) (t:ByteArray) (x:J) (K:List ByteArray) (L:List J) (e:Ending) (w':World):Prop:=
 ∃v,e= .returned v∧RepS w' (fun b=>S b∨W.heap.size≤b) (.mk 5 0 ⟨#[]⟩ (nF t x false K L).2 (nF t x false K L).1) v∧Below W.heap.size W w'
def Key (G:Prop):Prop:=G
theorem Key.out {G:Prop} (h:Key G):G:=h
theorem Az {G R:Prop} (h:Key G→R) (g:G):R:=h g
theorem xm (kd n:Int) (s:ByteArray) (K:List ByteArray) (L:List J) (t:ByteArray) (x:J) (va vx:Value) (W:World) (S:Nat→Prop) (hS: ∀b,S b→b<W.heap.size) (ha:RepS W S (.mk kd n s L K) va) (hx:RepS W S x vx) (cf:K.length=L.length) (hq:K.length≤1000000) (ht:t.size≤9223372036854775807):
  Calls prog 140 #[va,.string t,vx] W (vV W S t x K L):=by
 obtain⟨vk,A,c,rfl,hs,⟨K1,d1,rfl,du,cQ⟩,hl,hc⟩:=ha.open
 obtain⟨dC,A',c',rfl,ds,⟨K2,d2,rfl,dt,dv⟩,hl',hc'⟩:=hx.open
 have HX:=dM hx
 have dA:Hid (K≠[]→ ∃b o,K1=some ⟨b,o,none⟩∧S b∧b<W.heap.size∧ ∀i,i<K.length→ ∃t,K[i]? =some t∧t.size≤9223372036854775807∧W.cell? ⟨b,o+i,none⟩=some (.string t)):=dM cQ
 have HC:Hid (L≠[]→ ∃b o,A=some ⟨b,o,none⟩∧S b∧b<W.heap.size∧RepCS W S b o L):=dM hc
 change Calls _ _ #[.agg #[.int .i64 kd,.int .i64 n,.string s,.slice A L.length c,.slice K1 K.length d1],_,_] W _
 clear cQ hc
 obtain⟨q,bT⟩:=yaa K.length
 obtain⟨x0,cI⟩: ∃a,a=x.kind:=⟨_,rfl⟩
 obtain⟨x1,cH⟩: ∃a,a=x.n:=⟨_,rfl⟩
 obtain⟨x2,cG⟩: ∃a,a=x.s:=⟨_,rfl⟩
 obtain⟨x3,cF⟩: ∃a,a=x.l.length:=⟨_,rfl⟩
 obtain⟨x4,cE⟩: ∃a,a=x.k.length:=⟨_,rfl⟩
 rw[←cI,←cH,←cG,←cF,←cE]at HX⊢
 rw[←cf]
 rw[←bT]at hq⊢
 have HQ:=dM bT
 have dy:Hid (q=L.length):=dM (bT.trans cf)
 have HS:=dM hS
 have ch:=dM ht
 clear ha hx hs du hl ds dt dv hl' hc' cI cH cG cF cE bT cf hS ht
 obtain⟨iJ,hJ,bj,bi,bh⟩:=gw IV
 obtain⟨iS,bc,bg,bf,bd⟩:=gw IU
 go_enter func140,ntmps140
 go_wp2
 have HI:=dM (sd W [.int .i64 kd,.int .i64 n,.string s,.slice A q c,.slice K1 q d1] [.int .i64 x0,.int .i64 x1,.string x2,.slice A' x3 c',.slice K2 x4 d2] S)
 obtain⟨c3,cU⟩: ∃x:List Value,x=[.int .i64 kd,.int .i64 n,.string s,.slice A q c,.slice K1 q d1]:=⟨_,rfl⟩
 obtain⟨c5,cT⟩: ∃x:List Value,x=[.int .i64 x0,.int .i64 x1,.string x2,.slice A' x3 c',.slice K2 x4 d2]:=⟨_,rfl⟩
 have a8:=dM cU
 have a7:=dM cT
 clear cU cT
 go_loopw[8,9] (fun b i wr=> ∃(j:Nat) (d:Bool) (ks:List ByteArray) (vs:List J) (xs:List Value) (vL vK:Value),b= .bool d∧i= .int .i64 (j:Int)∧j≤q∧ks.length≤j+1∧vs.length≤j+1∧ks.length=vs.length∧(d=false→ks.length≤j)∧
   (ks++(nF t x d (K.drop j) (L.drop j)).1=(nF t x false K L).1∧vs++(nF t x d (K.drop j) (L.drop j)).2=(nF t x false K L).2)∧(∀u∈ks,u.size≤9223372036854775807)∧PutInv W wr c3 c5 S vs xs vL ks vK) (fun _ i _=>q-(intOf i).toNat)
 case atStart=>exact⟨0,false,[],[],[],.slice none 0 0,.slice none 0 0,rfl,rfl,by omega,by simp,by simp,rfl,fun _=>by simp,⟨rfl,rfl⟩,by simp,by rw[a8.out,a7.out];exact HI.out⟩
 case round=>
  obtain⟨j,d,ks,vs,xs,vL,vK,rfl,rfl,hj,dw,dr,cP,cR,cN,cK,hI⟩:=hrel
  have aE:=dM cN
  have a6:=dM cK
  have dL:=dM hI
  have bl:=dM cP
  have cm:=dM cR
  rw[a8.out,a7.out]at hI
  have aA:=dM hI
  obtain⟨e33,e34,e50,e51,e52,e53,e54,e73,e74,f73,f74⟩:=hI.cells
  obtain⟨⟨h3,h5,h6,h7⟩,⟨hL,hf⟩,hK,hb,hsz⟩:=hI
  have H6:=dM h6
  have H7:=dM h7
  obtain⟨Y,cd⟩: ∃n,n=ks.length:=⟨_,rfl⟩
  obtain⟨V,cc⟩: ∃n,n=vs.length:=⟨_,rfl⟩
  rw[←cd]at hK dw
  rw[←cc]at hL dr
  have ax:=dM cd
  have aa:=dM cc
  have HL:=dM hL
  have HF:=dM hf
  have HK:=dM hK
  clear cd cc
  have HB:=dM hb
  clear h3 h5 h6 h7 hL hf hK hb cN cK cP cR HI
  by_cases cO:j<q
  ·have aW:j<K.length:=by rw[←HQ.out];exact cO
   have bo:j<L.length:=by rw[←dy.out];exact cO
   obtain⟨b1,o1,rfl,dx,bW,cS⟩:=dA.out (fun e=>by rw[e]at aW;exact absurd aW (gU _))
   obtain⟨u,ba,cJ,hu⟩:=cS j aW
   rw[dZ aW]at ba
   replace ba:=gh ba
   have HU:=dM hu
   have bS:=(HB.out.cell (p:=⟨b1,o1+j,none⟩) bW).trans hu
   have aD:=dM (xx t x d aW bo)
   rw[ba]at aD
   have cg:=dM cJ
   have dJ:Hid (u∈K):=dM (by rw[←ba];exact fe aW)
   obtain⟨b2,o2,rfl,ce,bV,cM⟩:=HC.out (fun e=>by rw[e]at bo;exact absurd bo (gU _))
   obtain⟨y,hy⟩:=yaa (L[j]'bo)
   obtain⟨vy,bn,bR⟩:=cM.at j bo
   rw[←hy]at bn aD
   obtain⟨dB,Q,N,rfl,_,⟨O,M,rfl,_,_⟩,_,_⟩:=bn.open
   obtain⟨I,cD⟩: ∃a,a=y.kind:=⟨_,rfl⟩
   obtain⟨G,cC⟩: ∃a,a=y.n:=⟨_,rfl⟩
   obtain⟨F,cB⟩: ∃a,a=y.s:=⟨_,rfl⟩
   obtain⟨E,cA⟩: ∃a,a=y.l.length:=⟨_,rfl⟩
   obtain⟨D,cz⟩: ∃a,a=y.k.length:=⟨_,rfl⟩
   rw[←cD,←cC,←cB,←cA,←cz]at bn bR
   have cl:=dM bR
   have ci:=dM ce
   obtain⟨t0,t1,t2,t3,t4,et,z0,z1,z2,z3,z4⟩:=bR.keeps ce bV (Keeps.below (S:=S) HB.out (fun b h _=>HS.out b h))
   simp only[gY,ig,gN,jq]at et
   obtain⟨rfl,rfl,rfl,rfl,rfl⟩:=et
   clear cD cC cB cA cz
   have HY:=dM bn
   have dI:b1<W.heap.size:=bW
   have i0:(j:Int)<(q:Int):=by omega
   have i1:(0:Int)≤(j:Int):=by omega
   have dK:=dM aW
   clear cS cJ cM bn bR hy hu ba aW bo dx ce
   by_cases af:u=t
   ·have b4:=sK af
    have c4:(u.toList !=t.toList)=false:=by rw[bne,b4];rfl
    cases d with
    |true=>
     have az:Hid (nF t x true (K.drop j) (L.drop j)=nF t x true (K.drop (j+1)) (L.drop (j+1))):=dM (by
      rw[aD.out,dP af,dP af];simp)
     clear af aD
     go_wp2_with fail
     go_roundw
     case rel=>exact⟨j+1,true,ks,vs,xs,_,_,rfl,by go_num,by omega,by(try simp);have:=ax.out;omega,by(try simp);have:=aa.out;omega,by(try simp);have:=bl.out;omega,(fun h=>by cases h),⟨by rw[←aE.out.1,az.out];try simp,by rw[←aE.out.2,az.out];try simp⟩,by
      intro v R
      try simp only[fA,eh,eF,fx,je]at R
      exact a6.out v R,by rw[a8.out,a7.out];exact aA.out⟩
     case measure=>simp[intOf];omega
    |false=>
     have bb:Op.bytesLess u.toList t.toList=false:=by rw[af];exact Nl _
     have az:Hid (nF t x false (K.drop j) (L.drop j)=(t::(nF t x true (K.drop (j+1)) (L.drop (j+1))).1,x::(nF t x true (K.drop (j+1)) (L.drop (j+1))).2)):=dM (by
      rw[aD.out,dP af,dP af,bb];simp)
     clear af aD
     go_wp2_with(first
      |(at_builtin;refine gQ _ rfl (.tmp 30) (.tmp 32) 61 rfl (W.heap.size+4) 9 iS (.string ⟨#[]⟩) 1 16 gF bc bg bf bd rfl (by decide) vK Y _ rfl (HK.out.alloc _) ⟨wr.heap.size,0,none⟩ 1 1 [.string t] rfl rfl ?dE ?dp (by decide) ?dn ?dm ?dl _ rfl ?_))
     case dp=>first|rfl|(intro v R;rw[eh.1 R];rfl)
     case dn=>unfold maxLen;omega
     case dm=>omega
     case dl=>first|omega|(simp;omega)
     intro gi bk w1 Z U ar bU
     have HA:=dM (aA.out.addK HS.out (dO wr _ none) U (by rw[ax.out]) Z)
     obtain⟨aq,ap,ao,am,ak,aj,ai,ah,ag,av,au⟩:=(aA.out.cells.grown (dO wr _ none) (by intro k B;cases B)).grown U (fun k B=>(HK.out.lt k B).1)
     have bG:=dM (D0 HA.out.2.1.1 aa.out)
     have aX:=HA.out.2.2.2.2
     clear Z U ar
     go_wp2_with(first
      |(at_builtin;refine gQ _ rfl (.tmp 36) (.tmp 38) 60 rfl (W.heap.size+4) 63 iJ (.agg #[.int .i64 0,.int .i64 0,.string ⟨#[]⟩,.slice none 0 0,.slice none 0 0]) 5 80 f9 hJ bj bi bh rfl (by decide) vL V _ rfl (bG.out.alloc _) ⟨w1.heap.size,0,none⟩ 1 1 [.int .i64 x0,.int .i64 x1,.string x2,.slice A' x3 c',.slice K2 x4 d2] rfl rfl ?dk ?dj (by decide) ?di ?dh ?dg _ rfl ?_))
     case dk=>exact eU (cs:= #[.int .i64 x0,.int .i64 x1,.string x2,.slice A' x3 c',.slice K2 x4 d2]) (F1 (by simp) [.int .i64 x0,.int .i64 x1,.string x2,.slice A' x3 c',.slice K2 x4 d2] 63)
     case dj=>intro v R;simp at R;rcases R with rfl|rfl|rfl|rfl|rfl<;>rfl
     case di=>unfold maxLen;omega
     case dh=>omega
     case dg=>simp;simp at aX;omega
     intro gj aU w2 aV aI bq aw
     have co:=dM (HA.out.addL HS.out (dO _ _ none) aI (by rw[aa.out]) aV HX.out)
     obtain⟨bQ,bP,bO,bN,bM,bL,bK,bJ,bI,b6,b0⟩:=(HA.out.cells.grown (dO _ _ none) (by intro k B;cases B)).grown aI (fun k B=>(bG.out.lt k B).1)
     clear aV aI bq aq ap ao am ak aj ai ah ag av au aX bU
     go_upto_region 9 with(fail)
     obtain⟨wi,aY⟩: ∃z,z=w2.setCell ⟨W.heap.size+1+1+1,3,none⟩ (.slice (some ⟨gj,0,none⟩) (V+1) aU):=⟨_,rfl⟩
     have ay:Hid (PutInv W wi [.int .i64 kd,.int .i64 n,.string s,.slice (some ⟨b2,o2,none⟩) q c,.slice (some ⟨b1,o1,none⟩) q d1] [.int .i64 x0,.int .i64 x1,.string x2,.slice A' x3 c',.slice K2 x4 d2] S (vs++[x]) (xs++[.int .i64 x0,.int .i64 x1,.string x2,.slice A' x3 c',.slice K2 x4 d2]) (.slice (some ⟨gj,0,none⟩) (V+1) aU) (ks++[t]) (.slice (some ⟨gi,0,none⟩) (Y+1) bk)):=dM (by rw[aY];exact co.out)
     rw[←aY]
     obtain⟨cy,cx,cw,cv,cu,ct,cr,cq,cp,cW,cV⟩:=ay.out.cells
     have cL:=(ay.out.2.2.2.1.cell (p:=⟨b1,o1+j,none⟩) bW).trans HU.out
     have cj:Hid (wi.ownsRow (W.heap.size+4) 9 1 (.slice (some ⟨gi,0,none⟩) (Y+1) bk) (Y+1) ((ks++[t]).map Value.string)):=dM (D0 ay.out.2.2.1 (by rw[dS,ax.out];rfl))
     have dz:Hid (wi.ownsRow (W.heap.size+4) 63 5 (.slice (some ⟨gj,0,none⟩) (V+1) aU) (V+1) (xs++[.int .i64 x0,.int .i64 x1,.string x2,.slice A' x3 c',.slice K2 x4 d2])):=dM (D0 ay.out.2.1.1 (by rw[dS,aa.out];rfl))
     have dq:=ay.out.2.2.2.2
     clear aY bQ bP bO bN bM bL bK bJ bI b6 b0 e33 e34 e50 e51 e52 e53 e54 e73 e74 f73 f74 bS aw
     go_wp2_with fail
     go_roundw
     case rel=>exact⟨j+1,true,ks++[t],vs++[x],xs++[.int .i64 x0,.int .i64 x1,.string x2,.slice A' x3 c',.slice K2 x4 d2],_,_,rfl,by go_num,by omega,by(try simp);have:=ax.out;omega,by(try simp);have:=aa.out;omega,by(try simp);have:=bl.out;omega,(fun h=>by cases h),⟨by rw[←aE.out.1,az.out];try simp,by rw[←aE.out.2,az.out];try simp⟩,by
      intro v R
      try simp only[fA,eh,eF,fx,je]at R
      rcases R with R|rfl
      ·exact a6.out v R
      ·exact ch.out,by rw[a8.out,a7.out];exact ay.out⟩
     case measure=>simp[intOf];omega
   ·have b4:=JW af
    have c4:(u.toList !=t.toList)=true:=by rw[bne,b4];rfl
    cases d with
    |true=>
     have az:Hid (nF t x true (K.drop j) (L.drop j)=(u::(nF t x true (K.drop (j+1)) (L.drop (j+1))).1,y::(nF t x true (K.drop (j+1)) (L.drop (j+1))).2)):=dM (by
      rw[aD.out,dN af,dN af];simp)
     clear af aD
     go_wp2_with fail
     obtain⟨aS,aR,aQ,a51,aP,aO,aN,aM,aL,aK,aJ⟩:=aA.out.cells.grown (nx (dO wr (.cells #[.string u] 9) none)) (by intro k B;cases B)
     apply Az
     ·intro aF
      go_region_law((refine fX _ (by rfl) _ _ _ (by rfl) (W.heap.size+4) 9 iS (.string ⟨#[]⟩) 1 16 gF bc bg bf bd rfl (by omega) vK Y _ (by rfl) ((HK.out.alloc _).drew) ⟨wr.heap.size,0,none⟩ 1 1 [.string u] (by rfl) (by rfl) (eU (cs:= #[.string u]) (t:=9) (fr:=(0,0)) (eC wr _)) (by simp[Value.oneCell']) (by omega) (by unfold maxLen;omega) (by omega) (by simp;omega) (wr.heap.size+1) (by simp) ?_;intro ga bF w1 Z U ar aw;have aC:=dM (aA.out.addK HS.out (nx (dO wr (.cells #[.string u] 9) none)) U (by rw[ax.out]) Z);obtain⟨aq,ap,ao,am,ak,aj,ai,ah,ag,av,au⟩:=(aA.out.cells.grown (nx (dO wr (.cells #[.string u] 9) none)) (by intro k B;cases B)).grown U (fun k B=>(HK.out.lt k B).1);clear Z U ar))
      all_goals(clear aq ap ao am ak aj ai ah ag av au aw;revert aC;revert w1;revert bF;revert ga;exact aF.out)
     clear aS aR aQ a51 aP aO aN aM aL aK aJ
     intro ga bF w1 aC
     obtain⟨ae,aH⟩: ∃z,z=w1.setCell ⟨W.heap.size+1+1+1,4,none⟩ (.slice (some ⟨ga,0,none⟩) (Y+1) bF):=⟨_,rfl⟩
     have X:Hid (PutInv W ae _ _ S vs xs vL (ks++[u]) (.slice (some ⟨ga,0,none⟩) (Y+1) bF)):=dM (by rw[aH];exact aC.out)
     rw[←aH]
     obtain⟨bA,bz,bx,bw,bv,bu,bt,bs,br,bC,bB⟩:=X.out.cells
     obtain⟨t0,t1,t2,t3,t4,et,r0,r1,r2,r3,r4⟩:=cl.out.keeps ci.out bV (Keeps.below (S:=S) X.out.2.2.2.1 (fun b h _=>HS.out b h))
     simp only[gY,ig,gN,jq]at et
     obtain⟨rfl,rfl,rfl,rfl,rfl⟩:=et
     clear aH aC e33 e34 e50 e51 e52 e53 e54 e73 e74 f73 f74 z0 z1 z2 z3 z4 bS
     have aT:Hid (ae.ownsRow (W.heap.size+4) 63 5 vL V xs):=dM (D0 X.out.2.1.1 aa.out)
     have bm:=X.out.2.2.2.2
     go_wp2_with fail
     obtain⟨aS,aR,aQ,a51,aP,aO,aN,aM,aL,aK,aJ⟩:=X.out.cells.grown (nx (dO ae (.cells #[.int .i64 I,.int .i64 G,.string F,.slice Q E N,.slice O D M] 63) none)) (by intro k B;cases B)
     obtain⟨q0,q1,q2,q3,q4⟩:(ae.alloc (.cells #[.int .i64 I,.int .i64 G,.string F,.slice Q E N,.slice O D M] 63)).drew.cell? ⟨b2,o2+j*5,none⟩=some (.int .i64 I)∧(ae.alloc (.cells #[.int .i64 I,.int .i64 G,.string F,.slice Q E N,.slice O D M] 63)).drew.cell? ⟨b2,o2+j*5+1,none⟩=some (.int .i64 G)∧(ae.alloc (.cells #[.int .i64 I,.int .i64 G,.string F,.slice Q E N,.slice O D M] 63)).drew.cell? ⟨b2,o2+j*5+2,none⟩=some (.string F)∧(ae.alloc (.cells #[.int .i64 I,.int .i64 G,.string F,.slice Q E N,.slice O D M] 63)).drew.cell? ⟨b2,o2+j*5+3,none⟩=some (.slice Q E N)∧(ae.alloc (.cells #[.int .i64 I,.int .i64 G,.string F,.slice Q E N,.slice O D M] 63)).drew.cell? ⟨b2,o2+j*5+4,none⟩=some (.slice O D M):=
      ⟨(nx (dO ae (.cells #[.int .i64 I,.int .i64 G,.string F,.slice Q E N,.slice O D M] 63) none)).cell r0 (by simp),(nx (dO ae (.cells #[.int .i64 I,.int .i64 G,.string F,.slice Q E N,.slice O D M] 63) none)).cell r1 (by simp),(nx (dO ae (.cells #[.int .i64 I,.int .i64 G,.string F,.slice Q E N,.slice O D M] 63) none)).cell r2 (by simp),(nx (dO ae (.cells #[.int .i64 I,.int .i64 G,.string F,.slice Q E N,.slice O D M] 63) none)).cell r3 (by simp),(nx (dO ae (.cells #[.int .i64 I,.int .i64 G,.string F,.slice Q E N,.slice O D M] 63) none)).cell r4 (by simp)⟩
     apply Az
     ·intro aF
      go_region_law((refine fX _ (by rfl) _ _ _ (by rfl) (W.heap.size+4) 63 iJ (.agg #[.int .i64 0,.int .i64 0,.string ⟨#[]⟩,.slice none 0 0,.slice none 0 0]) 5 80 f9 hJ bj bi bh rfl (by omega) vL V _ (by rfl) ((aT.out.alloc _).drew) ⟨ae.heap.size,0,none⟩ 1 1 [.int .i64 I,.int .i64 G,.string F,.slice Q E N,.slice O D M] (by rfl) (by rfl) (eU (cs:= #[.int .i64 I,.int .i64 G,.string F,.slice Q E N,.slice O D M]) (t:=63) (fr:=(0,0)) (eC ae _)) (by simp[Value.oneCell']) (by omega) (by unfold maxLen;omega) (by omega) (by simp;omega) (ae.heap.size+1) (by simp) ?_;intro bZ b9 w3 Z U ar aw;have aB:=dM (X.out.addL HS.out (nx (dO ae (.cells #[.int .i64 I,.int .i64 G,.string F,.slice Q E N,.slice O D M] 63) none)) U (by rw[aa.out]) Z HY.out);obtain⟨aq,ap,ao,am,ak,aj,ai,ah,ag,av,au⟩:=(X.out.cells.grown (nx (dO ae (.cells #[.int .i64 I,.int .i64 G,.string F,.slice Q E N,.slice O D M] 63) none)) (by intro k B;cases B)).grown U (fun k B=>(aT.out.lt k B).1);clear Z U ar))
      all_goals(clear aq ap ao am ak aj ai ah ag av au aw;revert aB;revert w3;revert b9;revert bZ;exact aF.out)
     clear aS aR aQ a51 aP aO aN aM aL aK aJ bA bz bx bw bv bu bt bs br bC bB q0 q1 q2 q3 q4 r0 r1 r2 r3 r4 bm
     intro bZ b9 w3 aB
     obtain⟨c6,aG⟩: ∃z,z=w3.setCell ⟨W.heap.size+1+1+1,3,none⟩ (.slice (some ⟨bZ,0,none⟩) (V+1) b9):=⟨_,rfl⟩
     have bH:Hid (PutInv W c6 _ _ S (vs++[y]) (xs++[.int .i64 I,.int .i64 G,.string F,.slice Q E N,.slice O D M]) (.slice (some ⟨bZ,0,none⟩) (V+1) b9) (ks++[u]) (.slice (some ⟨ga,0,none⟩) (Y+1) bF)):=dM (by rw[aG];exact aB.out)
     rw[←aG]
     clear aG aB
     go_wp2_with fail
     go_roundw
     case rel=>exact⟨j+1,true,ks++[u],vs++[y],xs++[.int .i64 I,.int .i64 G,.string F,.slice Q E N,.slice O D M],_,_,rfl,by go_num,by omega,by(try simp);have:=ax.out;omega,by(try simp);have:=aa.out;omega,by(try simp);have:=bl.out;omega,(fun h=>by cases h),⟨by rw[←aE.out.1,az.out];try simp,by rw[←aE.out.2,az.out];try simp⟩,by
      intro v R
      try simp only[fA,eh,eF,fx,je]at R
      rcases R with R|rfl
      ·exact a6.out v R
      ·exact cg.out,by rw[a8.out,a7.out];exact bH.out⟩
     case measure=>simp[intOf];omega
    |false=>
     by_cases bb:Op.bytesLess u.toList t.toList=true
     ·have az:Hid (nF t x false (K.drop j) (L.drop j)=(u::(nF t x false (K.drop (j+1)) (L.drop (j+1))).1,y::(nF t x false (K.drop (j+1)) (L.drop (j+1))).2)):=dM (by
       rw[aD.out,dN af,dN af,bb];simp)
      clear af aD
      go_wp2_with fail
      obtain⟨aS,aR,aQ,a51,aP,aO,aN,aM,aL,aK,aJ⟩:=aA.out.cells.grown (nx (dO wr (.cells #[.string u] 9) none)) (by intro k B;cases B)
      apply Az
      ·intro aF
       go_region_law((refine fX _ (by rfl) _ _ _ (by rfl) (W.heap.size+4) 9 iS (.string ⟨#[]⟩) 1 16 gF bc bg bf bd rfl (by omega) vK Y _ (by rfl) ((HK.out.alloc _).drew) ⟨wr.heap.size,0,none⟩ 1 1 [.string u] (by rfl) (by rfl) (eU (cs:= #[.string u]) (t:=9) (fr:=(0,0)) (eC wr _)) (by simp[Value.oneCell']) (by omega) (by unfold maxLen;omega) (by omega) (by simp;omega) (wr.heap.size+1) (by simp) ?_;intro gb bE w1 Z U ar aw;have aC:=dM (aA.out.addK HS.out (nx (dO wr (.cells #[.string u] 9) none)) U (by rw[ax.out]) Z);obtain⟨aq,ap,ao,am,ak,aj,ai,ah,ag,av,au⟩:=(aA.out.cells.grown (nx (dO wr (.cells #[.string u] 9) none)) (by intro k B;cases B)).grown U (fun k B=>(HK.out.lt k B).1);clear Z U ar))
       all_goals(clear aq ap ao am ak aj ai ah ag av au aw;revert aC;revert w1;revert bE;revert gb;exact aF.out)
      clear aS aR aQ a51 aP aO aN aM aL aK aJ
      intro gb bE w1 aC
      obtain⟨ad,aH⟩: ∃z,z=w1.setCell ⟨W.heap.size+1+1+1,4,none⟩ (.slice (some ⟨gb,0,none⟩) (Y+1) bE):=⟨_,rfl⟩
      have X:Hid (PutInv W ad _ _ S vs xs vL (ks++[u]) (.slice (some ⟨gb,0,none⟩) (Y+1) bE)):=dM (by rw[aH];exact aC.out)
      rw[←aH]
      obtain⟨bA,bz,bx,bw,bv,bu,bt,bs,br,bC,bB⟩:=X.out.cells
      obtain⟨t0,t1,t2,t3,t4,et,r0,r1,r2,r3,r4⟩:=cl.out.keeps ci.out bV (Keeps.below (S:=S) X.out.2.2.2.1 (fun b h _=>HS.out b h))
      simp only[gY,ig,gN,jq]at et
      obtain⟨rfl,rfl,rfl,rfl,rfl⟩:=et
      clear aH aC e33 e34 e50 e51 e52 e53 e54 e73 e74 f73 f74 z0 z1 z2 z3 z4 bS
      have aT:Hid (ad.ownsRow (W.heap.size+4) 63 5 vL V xs):=dM (D0 X.out.2.1.1 aa.out)
      have bm:=X.out.2.2.2.2
      go_wp2_with fail
      obtain⟨aS,aR,aQ,a51,aP,aO,aN,aM,aL,aK,aJ⟩:=X.out.cells.grown (nx (dO ad (.cells #[.int .i64 I,.int .i64 G,.string F,.slice Q E N,.slice O D M] 63) none)) (by intro k B;cases B)
      obtain⟨q0,q1,q2,q3,q4⟩:(ad.alloc (.cells #[.int .i64 I,.int .i64 G,.string F,.slice Q E N,.slice O D M] 63)).drew.cell? ⟨b2,o2+j*5,none⟩=some (.int .i64 I)∧(ad.alloc (.cells #[.int .i64 I,.int .i64 G,.string F,.slice Q E N,.slice O D M] 63)).drew.cell? ⟨b2,o2+j*5+1,none⟩=some (.int .i64 G)∧(ad.alloc (.cells #[.int .i64 I,.int .i64 G,.string F,.slice Q E N,.slice O D M] 63)).drew.cell? ⟨b2,o2+j*5+2,none⟩=some (.string F)∧(ad.alloc (.cells #[.int .i64 I,.int .i64 G,.string F,.slice Q E N,.slice O D M] 63)).drew.cell? ⟨b2,o2+j*5+3,none⟩=some (.slice Q E N)∧(ad.alloc (.cells #[.int .i64 I,.int .i64 G,.string F,.slice Q E N,.slice O D M] 63)).drew.cell? ⟨b2,o2+j*5+4,none⟩=some (.slice O D M):=
       ⟨(nx (dO ad (.cells #[.int .i64 I,.int .i64 G,.string F,.slice Q E N,.slice O D M] 63) none)).cell r0 (by simp),(nx (dO ad (.cells #[.int .i64 I,.int .i64 G,.string F,.slice Q E N,.slice O D M] 63) none)).cell r1 (by simp),(nx (dO ad (.cells #[.int .i64 I,.int .i64 G,.string F,.slice Q E N,.slice O D M] 63) none)).cell r2 (by simp),(nx (dO ad (.cells #[.int .i64 I,.int .i64 G,.string F,.slice Q E N,.slice O D M] 63) none)).cell r3 (by simp),(nx (dO ad (.cells #[.int .i64 I,.int .i64 G,.string F,.slice Q E N,.slice O D M] 63) none)).cell r4 (by simp)⟩
      apply Az
      ·intro aF
       go_region_law((refine fX _ (by rfl) _ _ _ (by rfl) (W.heap.size+4) 63 iJ (.agg #[.int .i64 0,.int .i64 0,.string ⟨#[]⟩,.slice none 0 0,.slice none 0 0]) 5 80 f9 hJ bj bi bh rfl (by omega) vL V _ (by rfl) ((aT.out.alloc _).drew) ⟨ad.heap.size,0,none⟩ 1 1 [.int .i64 I,.int .i64 G,.string F,.slice Q E N,.slice O D M] (by rfl) (by rfl) (eU (cs:= #[.int .i64 I,.int .i64 G,.string F,.slice Q E N,.slice O D M]) (t:=63) (fr:=(0,0)) (eC ad _)) (by simp[Value.oneCell']) (by omega) (by unfold maxLen;omega) (by omega) (by simp;omega) (ad.heap.size+1) (by simp) ?_;intro bY b8 w3 Z U ar aw;have aB:=dM (X.out.addL HS.out (nx (dO ad (.cells #[.int .i64 I,.int .i64 G,.string F,.slice Q E N,.slice O D M] 63) none)) U (by rw[aa.out]) Z HY.out);obtain⟨aq,ap,ao,am,ak,aj,ai,ah,ag,av,au⟩:=(X.out.cells.grown (nx (dO ad (.cells #[.int .i64 I,.int .i64 G,.string F,.slice Q E N,.slice O D M] 63) none)) (by intro k B;cases B)).grown U (fun k B=>(aT.out.lt k B).1);clear Z U ar))
       all_goals(clear aq ap ao am ak aj ai ah ag av au aw;revert aB;revert w3;revert b8;revert bY;exact aF.out)
      clear aS aR aQ a51 aP aO aN aM aL aK aJ bA bz bx bw bv bu bt bs br bC bB q0 q1 q2 q3 q4 r0 r1 r2 r3 r4 bm
      intro bY b8 w3 aB
      obtain⟨cZ,aG⟩: ∃z,z=w3.setCell ⟨W.heap.size+1+1+1,3,none⟩ (.slice (some ⟨bY,0,none⟩) (V+1) b8):=⟨_,rfl⟩
      have bH:Hid (PutInv W cZ _ _ S (vs++[y]) (xs++[.int .i64 I,.int .i64 G,.string F,.slice Q E N,.slice O D M]) (.slice (some ⟨bY,0,none⟩) (V+1) b8) (ks++[u]) (.slice (some ⟨gb,0,none⟩) (Y+1) bE)):=dM (by rw[aG];exact aB.out)
      rw[←aG]
      clear aG aB
      go_wp2_with fail
      go_roundw
      case rel=>exact⟨j+1,false,ks++[u],vs++[y],xs++[.int .i64 I,.int .i64 G,.string F,.slice Q E N,.slice O D M],_,_,rfl,by go_num,by omega,by(try simp);have:=ax.out;omega,by(try simp);have:=aa.out;omega,by(try simp);have:=bl.out;omega,(fun _=>by simp;exact cm.out trivial),⟨by rw[←aE.out.1,az.out];try simp,by rw[←aE.out.2,az.out];try simp⟩,by
       intro v R
       try simp only[fA,eh,eF,fx,je]at R
       rcases R with R|rfl
       ·exact a6.out v R
       ·exact cg.out,by rw[a8.out,a7.out];exact bH.out⟩
      case measure=>simp[intOf];omega
     ·replace bb:Op.bytesLess u.toList t.toList=false:=by simpa using bb
      have az:Hid (nF t x false (K.drop j) (L.drop j)=(t::u::(nF t x true (K.drop (j+1)) (L.drop (j+1))).1,x::y::(nF t x true (K.drop (j+1)) (L.drop (j+1))).2)):=dM (by
       rw[aD.out,dN af,dN af,bb];simp)
      have dG:Y≤j:=by have:=cm.out rfl;have:=ax.out;omega
      have dF:V≤j:=by have:=cm.out rfl;have:=aa.out;have:=bl.out;omega
      clear af aD
      go_wp2_with(first
       |(at_builtin;refine gQ _ rfl (.tmp 30) (.tmp 32) 61 rfl (W.heap.size+4) 9 iS (.string ⟨#[]⟩) 1 16 gF bc bg bf bd rfl (by decide) vK Y _ rfl (HK.out.alloc _) ⟨wr.heap.size,0,none⟩ 1 1 [.string t] rfl rfl ?dD ?df (by decide) ?de ?dd ?dc _ rfl ?_))
      case df=>first|rfl|(intro v R;rw[eh.1 R];rfl)
      case de=>unfold maxLen;omega
      case dd=>omega
      case dc=>first|omega|(simp;omega)
      intro gi bk w1 Z U ar bU
      have HA:=dM (aA.out.addK HS.out (dO wr _ none) U (by rw[ax.out]) Z)
      obtain⟨aq,ap,ao,am,ak,aj,ai,ah,ag,av,au⟩:=(aA.out.cells.grown (dO wr _ none) (by intro k B;cases B)).grown U (fun k B=>(HK.out.lt k B).1)
      have bG:=dM (D0 HA.out.2.1.1 aa.out)
      have aX:=HA.out.2.2.2.2
      clear Z U ar
      go_wp2_with(first
       |(at_builtin;refine gQ _ rfl (.tmp 36) (.tmp 38) 60 rfl (W.heap.size+4) 63 iJ (.agg #[.int .i64 0,.int .i64 0,.string ⟨#[]⟩,.slice none 0 0,.slice none 0 0]) 5 80 f9 hJ bj bi bh rfl (by decide) vL V _ rfl (bG.out.alloc _) ⟨w1.heap.size,0,none⟩ 1 1 [.int .i64 x0,.int .i64 x1,.string x2,.slice A' x3 c',.slice K2 x4 d2] rfl rfl ?db ?da (by decide) ?c9 ?c8 ?c7 _ rfl ?_))
      case db=>exact eU (cs:= #[.int .i64 x0,.int .i64 x1,.string x2,.slice A' x3 c',.slice K2 x4 d2]) (F1 (by simp) [.int .i64 x0,.int .i64 x1,.string x2,.slice A' x3 c',.slice K2 x4 d2] 63)
      case da=>intro v R;simp at R;rcases R with rfl|rfl|rfl|rfl|rfl<;>rfl
      case c9=>unfold maxLen;omega
      case c8=>omega
      case c7=>simp;simp at aX;omega
      intro gj aU w2 aV aI bq aw
      have co:=dM (HA.out.addL HS.out (dO _ _ none) aI (by rw[aa.out]) aV HX.out)
      obtain⟨bQ,bP,bO,bN,bM,bL,bK,bJ,bI,b6,b0⟩:=(HA.out.cells.grown (dO _ _ none) (by intro k B;cases B)).grown aI (fun k B=>(bG.out.lt k B).1)
      clear aV aI bq aq ap ao am ak aj ai ah ag av au aX bU
      go_upto_region 9 with(fail)
      obtain⟨wi,aY⟩: ∃z,z=w2.setCell ⟨W.heap.size+1+1+1,3,none⟩ (.slice (some ⟨gj,0,none⟩) (V+1) aU):=⟨_,rfl⟩
      have ay:Hid (PutInv W wi [.int .i64 kd,.int .i64 n,.string s,.slice (some ⟨b2,o2,none⟩) q c,.slice (some ⟨b1,o1,none⟩) q d1] [.int .i64 x0,.int .i64 x1,.string x2,.slice A' x3 c',.slice K2 x4 d2] S (vs++[x]) (xs++[.int .i64 x0,.int .i64 x1,.string x2,.slice A' x3 c',.slice K2 x4 d2]) (.slice (some ⟨gj,0,none⟩) (V+1) aU) (ks++[t]) (.slice (some ⟨gi,0,none⟩) (Y+1) bk)):=dM (by rw[aY];exact co.out)
      rw[←aY]
      obtain⟨cy,cx,cw,cv,cu,ct,cr,cq,cp,cW,cV⟩:=ay.out.cells
      have cL:=(ay.out.2.2.2.1.cell (p:=⟨b1,o1+j,none⟩) bW).trans HU.out
      have cj:Hid (wi.ownsRow (W.heap.size+4) 9 1 (.slice (some ⟨gi,0,none⟩) (Y+1) bk) (Y+1) ((ks++[t]).map Value.string)):=dM (D0 ay.out.2.2.1 (by rw[dS,ax.out];rfl))
      have dz:Hid (wi.ownsRow (W.heap.size+4) 63 5 (.slice (some ⟨gj,0,none⟩) (V+1) aU) (V+1) (xs++[.int .i64 x0,.int .i64 x1,.string x2,.slice A' x3 c',.slice K2 x4 d2])):=dM (D0 ay.out.2.1.1 (by rw[dS,aa.out];rfl))
      have dq:=ay.out.2.2.2.2
      clear aY bQ bP bO bN bM bL bK bJ bI b6 b0 e33 e34 e50 e51 e52 e53 e54 e73 e74 f73 f74 bS aw
      go_wp2_with fail
      obtain⟨aS,aR,aQ,a51,aP,aO,aN,aM,aL,aK,aJ⟩:=ay.out.cells.grown (nx (dO wi (.cells #[.string u] 9) none)) (by intro k B;cases B)
      apply Az
      ·intro aF
       go_region_law((refine fX _ (by rfl) _ _ _ (by rfl) (W.heap.size+4) 9 iS (.string ⟨#[]⟩) 1 16 gF bc bg bf bd rfl (by omega) (.slice (some ⟨gi,0,none⟩) (Y+1) bk) (Y+1) _ (by rfl) ((cj.out.alloc _).drew) ⟨wi.heap.size,0,none⟩ 1 1 [.string u] (by rfl) (by rfl) (eU (cs:= #[.string u]) (t:=9) (fr:=(0,0)) (eC wi _)) (by simp[Value.oneCell']) (by omega) (by unfold maxLen;omega) (by omega) (by simp;omega) (wi.heap.size+1) (by simp) ?_;intro gc bD w1 Z U ar aw;have aC:=dM (ay.out.addK HS.out (nx (dO wi (.cells #[.string u] 9) none)) U (by rw[dS,ax.out];rfl) Z);obtain⟨aq,ap,ao,am,ak,aj,ai,ah,ag,av,au⟩:=(ay.out.cells.grown (nx (dO wi (.cells #[.string u] 9) none)) (by intro k B;cases B)).grown U (fun k B=>(cj.out.lt k B).1);clear Z U ar))
       all_goals(clear aq ap ao am ak aj ai ah ag av au aw;revert aC;revert w1;revert bD;revert gc;exact aF.out)
      clear aS aR aQ a51 aP aO aN aM aL aK aJ
      intro gc bD w1 aC
      obtain⟨ab,aH⟩: ∃z,z=w1.setCell ⟨W.heap.size+1+1+1,4,none⟩ (.slice (some ⟨gc,0,none⟩) ((Y+1)+1) bD):=⟨_,rfl⟩
      have X:Hid (PutInv W ab _ _ S (vs++[x]) (xs++[.int .i64 x0,.int .i64 x1,.string x2,.slice A' x3 c',.slice K2 x4 d2]) (.slice (some ⟨gj,0,none⟩) (V+1) aU) ((ks++[t])++[u]) (.slice (some ⟨gc,0,none⟩) ((Y+1)+1) bD)):=dM (by rw[aH];exact aC.out)
      rw[←aH]
      obtain⟨bA,bz,bx,bw,bv,bu,bt,bs,br,bC,bB⟩:=X.out.cells
      obtain⟨t0,t1,t2,t3,t4,et,r0,r1,r2,r3,r4⟩:=cl.out.keeps ci.out bV (Keeps.below (S:=S) X.out.2.2.2.1 (fun b h _=>HS.out b h))
      simp only[gY,ig,gN,jq]at et
      obtain⟨rfl,rfl,rfl,rfl,rfl⟩:=et
      clear aH aC cy cx cw cv cu ct cr cq cp cW cV z0 z1 z2 z3 z4 cL
      have aT:Hid (ab.ownsRow (W.heap.size+4) 63 5 (.slice (some ⟨gj,0,none⟩) (V+1) aU) (V+1) (xs++[.int .i64 x0,.int .i64 x1,.string x2,.slice A' x3 c',.slice K2 x4 d2])):=dM (D0 X.out.2.1.1 (by rw[dS,aa.out];rfl))
      have bm:=X.out.2.2.2.2
      go_wp2_with fail
      obtain⟨aS,aR,aQ,a51,aP,aO,aN,aM,aL,aK,aJ⟩:=X.out.cells.grown (nx (dO ab (.cells #[.int .i64 I,.int .i64 G,.string F,.slice Q E N,.slice O D M] 63) none)) (by intro k B;cases B)
      obtain⟨q0,q1,q2,q3,q4⟩:(ab.alloc (.cells #[.int .i64 I,.int .i64 G,.string F,.slice Q E N,.slice O D M] 63)).drew.cell? ⟨b2,o2+j*5,none⟩=some (.int .i64 I)∧(ab.alloc (.cells #[.int .i64 I,.int .i64 G,.string F,.slice Q E N,.slice O D M] 63)).drew.cell? ⟨b2,o2+j*5+1,none⟩=some (.int .i64 G)∧(ab.alloc (.cells #[.int .i64 I,.int .i64 G,.string F,.slice Q E N,.slice O D M] 63)).drew.cell? ⟨b2,o2+j*5+2,none⟩=some (.string F)∧(ab.alloc (.cells #[.int .i64 I,.int .i64 G,.string F,.slice Q E N,.slice O D M] 63)).drew.cell? ⟨b2,o2+j*5+3,none⟩=some (.slice Q E N)∧(ab.alloc (.cells #[.int .i64 I,.int .i64 G,.string F,.slice Q E N,.slice O D M] 63)).drew.cell? ⟨b2,o2+j*5+4,none⟩=some (.slice O D M):=
       ⟨(nx (dO ab (.cells #[.int .i64 I,.int .i64 G,.string F,.slice Q E N,.slice O D M] 63) none)).cell r0 (by simp),(nx (dO ab (.cells #[.int .i64 I,.int .i64 G,.string F,.slice Q E N,.slice O D M] 63) none)).cell r1 (by simp),(nx (dO ab (.cells #[.int .i64 I,.int .i64 G,.string F,.slice Q E N,.slice O D M] 63) none)).cell r2 (by simp),(nx (dO ab (.cells #[.int .i64 I,.int .i64 G,.string F,.slice Q E N,.slice O D M] 63) none)).cell r3 (by simp),(nx (dO ab (.cells #[.int .i64 I,.int .i64 G,.string F,.slice Q E N,.slice O D M] 63) none)).cell r4 (by simp)⟩
      apply Az
      ·intro aF
       go_region_law((refine fX _ (by rfl) _ _ _ (by rfl) (W.heap.size+4) 63 iJ (.agg #[.int .i64 0,.int .i64 0,.string ⟨#[]⟩,.slice none 0 0,.slice none 0 0]) 5 80 f9 hJ bj bi bh rfl (by omega) (.slice (some ⟨gj,0,none⟩) (V+1) aU) (V+1) _ (by rfl) ((aT.out.alloc _).drew) ⟨ab.heap.size,0,none⟩ 1 1 [.int .i64 I,.int .i64 G,.string F,.slice Q E N,.slice O D M] (by rfl) (by rfl) (eU (cs:= #[.int .i64 I,.int .i64 G,.string F,.slice Q E N,.slice O D M]) (t:=63) (fr:=(0,0)) (eC ab _)) (by simp[Value.oneCell']) (by omega) (by unfold maxLen;omega) (by omega) (by simp;omega) (ab.heap.size+1) (by simp) ?_;intro bX b7 w3 Z U ar aw;have aB:=dM (X.out.addL HS.out (nx (dO ab (.cells #[.int .i64 I,.int .i64 G,.string F,.slice Q E N,.slice O D M] 63) none)) U (by rw[dS,aa.out];rfl) Z HY.out);obtain⟨aq,ap,ao,am,ak,aj,ai,ah,ag,av,au⟩:=(X.out.cells.grown (nx (dO ab (.cells #[.int .i64 I,.int .i64 G,.string F,.slice Q E N,.slice O D M] 63) none)) (by intro k B;cases B)).grown U (fun k B=>(aT.out.lt k B).1);clear Z U ar))
       all_goals(clear aq ap ao am ak aj ai ah ag av au aw;revert aB;revert w3;revert b7;revert bX;exact aF.out)
      clear aS aR aQ a51 aP aO aN aM aL aK aJ bA bz bx bw bv bu bt bs br bC bB q0 q1 q2 q3 q4 r0 r1 r2 r3 r4 bm
      intro bX b7 w3 aB
      obtain⟨cY,aG⟩: ∃z,z=w3.setCell ⟨W.heap.size+1+1+1,3,none⟩ (.slice (some ⟨bX,0,none⟩) ((V+1)+1) b7):=⟨_,rfl⟩
      have bH:Hid (PutInv W cY _ _ S ((vs++[x])++[y]) ((xs++[.int .i64 x0,.int .i64 x1,.string x2,.slice A' x3 c',.slice K2 x4 d2])++[.int .i64 I,.int .i64 G,.string F,.slice Q E N,.slice O D M]) (.slice (some ⟨bX,0,none⟩) ((V+1)+1) b7) ((ks++[t])++[u]) (.slice (some ⟨gc,0,none⟩) ((Y+1)+1) bD)):=dM (by rw[aG];exact aB.out)
      rw[←aG]
      clear aG aB
      go_wp2_with fail
      go_roundw
      case rel=>exact⟨j+1,true,ks++[t]++[u],vs++[x]++[y],xs++[.int .i64 x0,.int .i64 x1,.string x2,.slice A' x3 c',.slice K2 x4 d2]++[.int .i64 I,.int .i64 G,.string F,.slice Q E N,.slice O D M],_,_,rfl,by go_num,by omega,by(try simp);have:=ax.out;omega,by(try simp);have:=aa.out;omega,by(try simp);have:=bl.out;omega,(fun h=>by cases h),⟨by rw[←aE.out.1,az.out];try simp,by rw[←aE.out.2,az.out];try simp⟩,by
       intro v R
       try simp only[fA,eh,eF,fx,je]at R
       rcases R with(R|rfl)|rfl
       ·exact a6.out v R
       ·exact ch.out
       ·exact cg.out,by rw[a8.out,a7.out];exact bH.out⟩
      case measure=>simp[intOf];omega
  ·obtain rfl:j=q:=by omega
   have dH: ¬(j:Int)<(j:Int):=by omega
   have cX:Hid (K.drop j=[]):=dM (fo (by rw[HQ.out];exact dQ _))
   cases d with
   |true=>
    have HR:Hid ((nF t x false K L).1=ks∧(nF t x false K L).2=vs):=dM (by
     have h:=aE.out
     rw[cX.out,nF]at h
     exact⟨by rw[←h.1];simp,by rw[←h.2];simp⟩)
    go_wp2_with(first
     |(refine pO rfl (some 82) rfl _ (.tmp 7) rfl (W.heap.size+3) 0 rfl _ _ H7.out [.int .i64 5,.int .i64 0,.string ⟨#[]⟩,vL,vK] (by simp) _ ed rfl m8 ?_;try go_frame)
     |(refine nn rfl none rfl _ (.tmp 6) (.tmp 82) rfl (W.heap.size+2) 0 [.int .i64 5,.int .i64 0,.string ⟨#[]⟩,vL,vK] rfl rfl _ _ H6.out (by simp[zeros5]) m8 (by intro v R;simp at R;rcases R with rfl|rfl|rfl|rfl|rfl<;>first|rfl|exact ze HL.out|exact ze HK.out) ?_;intro w5 bp aZ;rw[nr _ _ (by simp[zeros5])]at bp;have cn:=dM (HB.out.grown aZ HB.out.size (by intro k B;injection B with B;omega));have ck:=dM aZ;clear aZ;try go_frame))
    refine dW (v:= .agg #[.int .i64 5,.int .i64 0,.string ⟨#[]⟩,vL,vK]) (wv results140 _ _ (W.heap.size+2) _ [.int .i64 5,.int .i64 0,.string ⟨#[]⟩,vL,vK] _ rfl bp ed rfl m8) rfl ?_
    refine⟨_,rfl,?_,cn.out⟩
    rw[HR.out.1,HR.out.2]
    exact aA.out.tells HS.out ck.out (by have:=aa.out;omega) (by have:=ax.out;omega) a6.out
   |false=>
    have HR:Hid ((nF t x false K L).1=ks++[t]∧(nF t x false K L).2=vs++[x]):=dM (by
     have h:=aE.out
     rw[cX.out,nF]at h
     exact⟨by rw[←h.1],by rw[←h.2]⟩)
    go_wp2_with(first
     |(at_builtin;refine gQ _ rfl (.tmp 71) (.tmp 73) 61 rfl (W.heap.size+4) 9 iS (.string ⟨#[]⟩) 1 16 gF bc bg bf bd rfl (by decide) vK Y _ rfl (HK.out.alloc _) ⟨wr.heap.size,0,none⟩ 1 1 [.string t] rfl rfl ?a1 ?a2 (by decide) ?a3 ?a4 ?a5 _ rfl ?_))
    case a2=>first|rfl|(intro v R;rw[eh.1 R];rfl)
    case a3=>unfold maxLen;omega
    case a4=>omega
    case a5=>first|omega|(simp;omega)
    intro g cb w1 Z U ar bU
    have HA:=dM (aA.out.addK HS.out (dO wr _ none) U (by rw[ax.out]) Z)
    obtain⟨aq,ap,ao,am,ak,aj,ai,ah,ag,av,au⟩:=(aA.out.cells.grown (dO wr _ none) (by intro k B;cases B)).grown U (fun k B=>(HK.out.lt k B).1)
    have aT:=dM (D0 HA.out.2.1.1 aa.out)
    have aX:=HA.out.2.2.2.2
    clear Z U ar
    go_wp2_with(first
     |(at_builtin;(refine gQ _ rfl (.tmp 77) (.tmp 79) 60 rfl (W.heap.size+4) 63 iJ (.agg #[.int .i64 0,.int .i64 0,.string ⟨#[]⟩,.slice none 0 0,.slice none 0 0]) 5 80 f9 hJ bj bi bh rfl (by decide) vL V _ rfl (aT.out.alloc _) ⟨w1.heap.size,0,none⟩ 1 1 [.int .i64 x0,.int .i64 x1,.string x2,.slice A' x3 c',.slice K2 x4 d2] rfl rfl ?b1 ?b2 (by decide) ?b3 ?b4 ?b5 _ rfl ?_)))
    case b1=>exact eU (cs:= #[.int .i64 x0,.int .i64 x1,.string x2,.slice A' x3 c',.slice K2 x4 d2]) (F1 (by simp) [.int .i64 x0,.int .i64 x1,.string x2,.slice A' x3 c',.slice K2 x4 d2] 63)
    case b2=>intro v R;simp at R;rcases R with rfl|rfl|rfl|rfl|rfl<;>rfl
    case b3=>unfold maxLen;omega
    case b4=>omega
    case b5=>simp;simp at aX;omega
    intro g2 ca w2 aV aI bq aw
    have X:=dM (HA.out.addL HS.out (dO _ _ none) aI (by rw[aa.out]) aV HX.out)
    obtain⟨bQ,bP,bO,bN,bM,bL,bK,bJ,bI,b6,b0⟩:=(HA.out.cells.grown (dO _ _ none) (by intro k B;cases B)).grown aI (fun k B=>(aT.out.lt k B).1)
    clear aV aI bq aq ap ao am ak aj ai ah ag av au
    go_wp2_with(first
     |(refine pO rfl (some 82) rfl _ (.tmp 7) rfl (W.heap.size+3) 0 rfl _ _ X.out.1.2.2.2 [.int .i64 5,.int .i64 0,.string ⟨#[]⟩,.slice (some ⟨g2,0,none⟩) (V+1) ca,.slice (some ⟨g,0,none⟩) (Y+1) cb] (by simp) _ ed rfl m8 ?_;try go_frame)
     |(refine nn rfl none rfl _ (.tmp 6) (.tmp 82) rfl (W.heap.size+2) 0 [.int .i64 5,.int .i64 0,.string ⟨#[]⟩,.slice (some ⟨g2,0,none⟩) (V+1) ca,.slice (some ⟨g,0,none⟩) (Y+1) cb] rfl rfl _ _ X.out.1.2.2.1 (by simp[zeros5]) m8 (by intro v R;simp at R;rcases R with rfl|rfl|rfl|rfl|rfl<;>rfl) ?_;intro w5 bp aZ;rw[nr _ _ (by simp[zeros5])]at bp;have cn:=dM (X.out.2.2.2.1.grown aZ X.out.2.2.2.1.size (by intro k B;injection B with B;omega));have ck:=dM aZ;clear aZ;try go_frame))
    refine dW (v:= .agg #[.int .i64 5,.int .i64 0,.string ⟨#[]⟩,.slice (some ⟨g2,0,none⟩) (V+1) ca,.slice (some ⟨g,0,none⟩) (Y+1) cb]) (wv results140 _ _ (W.heap.size+2) _ [.int .i64 5,.int .i64 0,.string ⟨#[]⟩,.slice (some ⟨g2,0,none⟩) (V+1) ca,.slice (some ⟨g,0,none⟩) (Y+1) cb] _ rfl bp ed rfl m8) rfl ?_
    refine⟨_,rfl,?_,cn.out⟩
    rw[HR.out.1,HR.out.2]
    exact X.out.tells HS.out ck.out (by have:=aa.out;rw[dS];simp;omega) (by have:=ax.out;rw[dS];simp;omega) (by
     intro u hu
     rcases fA.1 hu with hu|hu
     ·exact a6.out u hu
     ·rw[eh.1 hu];exact ch.out)
def ObjInv (W wr:World) (ks:List ByteArray) (vs:List J) (vL vK:Value):Prop:=
 Blk wr W.heap.size 63 zeros5∧Blk wr (W.heap.size+1) 63 [.int .i64 5,.int .i64 0,.string ⟨#[]⟩,vL,vK]∧
 RepS wr (fun b=>W.heap.size+2≤b) (.mk 5 0 ⟨#[]⟩ vs ks) (.agg #[.int .i64 5,.int .i64 0,.string ⟨#[]⟩,vL,vK])∧Below W.heap.size W wr∧W.heap.size+2≤wr.heap.size
theorem ObjInv.put {W wr D B:World} {ks L:List ByteArray} {vs I:List J} {R U E F:Value} (Z:ObjInv W wr ks vs R U) (G:Below wr.heap.size wr D) (V:RepS D (fun b=>W.heap.size+2≤b) (.mk 5 0 ⟨#[]⟩ I L) (.agg #[.int .i64 5,.int .i64 0,.string ⟨#[]⟩,E,F]))
  (Y:Blk B (W.heap.size+1) 63 [.int .i64 5,.int .i64 0,.string ⟨#[]⟩,E,F]) (q:D.grownBy B (some (W.heap.size+1))):ObjInv W B L I E F:=by
 obtain⟨Q,aa,hr,O,X⟩:=Z
 have N:=O.trans (G.mono O.size)
 refine⟨(Q.below G Q.lt).grown q (by intro e;injection e with e;omega),Y,RepS.keeps (Keeps.grown q (fun b h e=> ?_)) (fun _ h _=>h) _ _ V,N.grown q N.size (by intro k M;injection M with M;omega),dV X (dV G.size q.size)⟩
 injection e with e
 replace h:W.heap.size+2≤b:=h
 omega
theorem CL {W wr:World} {ks:List ByteArray} {vs:List J} {q B:Value} (E:ObjInv W wr ks vs q B): ∃A c K d,q= .slice A vs.length c∧B= .slice K ks.length d:=by
 obtain⟨_,_,D,_⟩:=E
 obtain⟨L,A,c,e,_,⟨K,d,F,_⟩,_⟩:=D.open
 simp only[gY,ig,gN,jq]at e
 obtain⟨_,_,_,I,G⟩:=e
 exact⟨A,c,K,d,I,by rw[G,F];rfl⟩
theorem u_: ∀{ks:List ByteArray} {vs:List J} (t:ByteArray),ks.length=vs.length→(om ks vs t).isSome=nw ks t
 |[],[],t,_=>rfl
 |k::ks,v::vs,t,h=>by
  have q:=u_ (ks:=ks) (vs:=vs) t (by simpa using h)
  unfold nw at q⊢
  rw[om,List.any_cons]
  by_cases e:k=t
  ·rw[dP e,ec e];rfl
  ·rw[dN e,dT e,q];rfl
theorem qS (t:ByteArray) (x:J): ∀(ks:List ByteArray) (d:Bool) (vs:List J),(nF t x d ks vs).1.length=(nF t x d ks vs).2.length∧(nF t x d ks vs).1.length≤ks.length+(if d=true then 0 else 1)
 |[],false,_=>by rw[nF];simp
 |[],true,_=>by rw[nF];simp
 |k::ks,d,vs=>by
  have q:=qS t x ks (d|| !Op.bytesLess k.toList t.toList) vs.tail
  cases d with
  |false=>
   rw[nF]
   cases hb:Op.bytesLess k.toList t.toList with
   |false=>
    rw[hb]at q
    simp only[Bool.not_false,Bool.or_true,if_true,kQ,jx]at q
    by_cases e:k=t
    ·simp[e];(try simp at q);omega
    ·simp[e];(try simp at q);omega
   |true=>
    rw[hb]at q
    by_cases e:k=t
    ·simp[e];(try simp at q);omega
    ·simp[e];(try simp at q);omega
  |true=>
   rw[nF]
   by_cases e:k=t
   ·simp[e];(try simp at q);omega
   ·simp[e];(try simp at q);omega
theorem AA (W:World):ObjInv W ((W.alloc (.cells zeros5.toArray 63)).alloc (.cells #[.int .i64 5,.int .i64 0,.string ⟨#[]⟩,.slice none 0 0,.slice none 0 0] 63)) [] [] (.slice none 0 0) (.slice none 0 0):=
 ⟨sW W zeros5 [.int .i64 5,.int .i64 0,.string ⟨#[]⟩,.slice none 0 0,.slice none 0 0],yN W zeros5 [.int .i64 5,.int .i64 0,.string ⟨#[]⟩,.slice none 0 0,.slice none 0 0],RepS.plain _ _ 5 0 _ (by decide),qo W zeros5 [.int .i64 5,.int .i64 0,.string ⟨#[]⟩,.slice none 0 0,.slice none 0 0],by simp⟩
theorem uc (s:ByteArray) (hs:s.size≤5000) (bF:Int) (cG:0≤bF) (hd:bF≤8) (val:Nat→Int→VR) (q:ValOk s bF val) (i:Nat) (left:Int) (hi:i<s.size) (cm:0≤left) (hl:left≤256) (W:World) (hc:f_ (a_ s) i=123):
  Calls prog 106 #[.string s,.int .i64 (i:Int),.int .i64 bF,.int .i64 left] W (sV W (nV (a_ s) val i left)):=by
 have ad:=dM (j_ s)
 have HV:=dM q
 have hG:=FY s i hi
 rw[hc]at hG
 have cB:(((s[i]'hi).toNat:Int)==123)=true:=by rw[←hG];rfl
 have bO:=dM (fun W:World=>Ef s ((i:Int)+1) (i+1) W (by omega) (by omega) (by omega))
 have aJ:=BQ s.size (a_ s) (i+1) (by rw[ad.out];omega) (by rw[ad.out];omega)
 rw[ad.out]at aJ
 have HM:Hid (nV (a_ s) val i left=nW (a_ s) val true (s.size+1) true (d_ (a_ s) (i+1)) left [] []):=dM (by
  unfold nV;rw[hc,ad.out];rfl)
 obtain⟨k0,ar⟩: ∃k,k=d_ (a_ s) (i+1):=⟨_,rfl⟩
 rw[←ar]at bO aJ HM
 have cz:Hid (k0≤s.size):=dM aJ.2
 have ce:=dM (AA W)
 clear hc hG ar aJ q
 go_enter func106,ntmps106
 go_wp2_with(go_at_call 73;(with_reducible refine(bO.out _).mono ?_);rintro e w' ⟨rfl,rfl⟩)
 go_loopw[1,3,14] (fun a b c wr=> ∃(k f:Nat) (F:Int) (ba:Bool) (ks:List ByteArray) (vs:List J) (vL vK:Value),a= .int .i64 (k:Int)∧b= .int .i64 F∧c= .bool ba∧k≤s.size∧s.size<k+f∧0≤F∧F≤256∧ks.length≤k∧ks.length=vs.length∧nV (a_ s) val i left=nW (a_ s) val true f ba k F ks vs∧ObjInv W wr ks vs vL vK) (fun a _ _ _=>s.size-(intOf a).toNat)
 case atStart=>exact⟨k0,s.size+1,left,true,[],[],.slice none 0 0,.slice none 0 0,rfl,rfl,rfl,cz.out,by omega,cm,hl,by simp,rfl,HM.out,ce.out⟩
 case round=>
  obtain⟨k,f,F,ba,ks,vs,vL,vK,rfl,rfl,rfl,hk,hf,b5,bZ,cD,bM,bV,hI⟩:=hrel
  have bG:=dM bV
  have HI:=dM hI
  have ci:=dM bM
  obtain⟨L,N,bX,hb,bA⟩:=hI
  have aW:=dM bX
  have HB:=dM hb
  clear bV bX hb HM ce bO
  obtain⟨f,rfl⟩: ∃g,f=g+1:=⟨f-1,by omega⟩
  have HC:=dM (fun W:World=>tl s k W (by omega) (by omega))
  by_cases aP:f_ (a_ s) k=125
  ·as_aux_lemma=>
    have HR:Hid (nV (a_ s) val i left=(.mk 5 0 ⟨#[]⟩ vs ks,d_ (a_ s) (k+1),F,0)):=dM (by rw[bG.out,nW];exact dP aP)
    have cy:=dM (fun W:World=>Ef s ((k:Int)+1) (k+1) W (by omega) (by omega) (by have:=oq (l:=a_ s) (i:=k) (by rw[aP];decide);rw[ad.out]at this;omega))
    rw[aP]at HC
    obtain⟨A,c,K,d,rfl,rfl⟩:=CL HI.out
    clear aP bG bM
    obtain⟨a0,a1,a2,a3,a4⟩:wr.cell? ⟨W.heap.size,0,none⟩=some (.int .i64 0)∧wr.cell? ⟨W.heap.size,1,none⟩=some (.int .i64 0)∧wr.cell? ⟨W.heap.size,2,none⟩=some (.string ⟨#[]⟩)∧wr.cell? ⟨W.heap.size,3,none⟩=some (.slice none 0 0)∧wr.cell? ⟨W.heap.size,4,none⟩=some (.slice none 0 0):=⟨L.cell 0,L.cell 1,L.cell 2,L.cell 3,L.cell 4⟩
    obtain⟨cO,cN,cM,cL,cK⟩:wr.frozen? ⟨W.heap.size,0,none⟩=false∧wr.frozen? ⟨W.heap.size,1,none⟩=false∧wr.frozen? ⟨W.heap.size,2,none⟩=false∧wr.frozen? ⟨W.heap.size,3,none⟩=false∧wr.frozen? ⟨W.heap.size,4,none⟩=false:=⟨L.frozen 0,L.frozen 1,L.frozen 2,L.frozen 3,L.frozen 4⟩
    obtain⟨b0,b1,b2,b3,b4⟩:wr.cell? ⟨W.heap.size+1,0,none⟩=some (.int .i64 5)∧wr.cell? ⟨W.heap.size+1,1,none⟩=some (.int .i64 0)∧wr.cell? ⟨W.heap.size+1,2,none⟩=some (.string ⟨#[]⟩)∧wr.cell? ⟨W.heap.size+1,3,none⟩=some (.slice A vs.length c)∧wr.cell? ⟨W.heap.size+1,4,none⟩=some (.slice K ks.length d):=⟨N.cell 0,N.cell 1,N.cell 2,N.cell 3,N.cell 4⟩
    go_wp2_with(go_at_call 101;(with_reducible refine(HC.out _).mono ?_);rintro e w' ⟨rfl,rfl⟩)
    have cl:IntKind.i64.wrap ((k:Int)+1)=(k:Int)+1:=by rw[es];omega
    go_region_law(go_simp;go_at_call 73;(with_reducible refine(cy.out _).mono ?_);rintro e w' ⟨rfl,rfl⟩)
    all_goals
     clear cl
     go_wp2_with fail
     simp only[fk,fD,eZ,Act.put,fE,gR,gt]
     obtain⟨hA,cw,cu⟩:=rl HB.out L (.int .i64 5) (.int .i64 0) (.string ⟨#[]⟩) (.slice A vs.length c) (.slice K ks.length d)
     obtain⟨hC,cr,cq⟩:=rl (sX HB.out) L.drew (.int .i64 5) (.int .i64 0) (.string ⟨#[]⟩) (.slice A vs.length c) (.slice K ks.length d)
     have cx:=hA.drew
     have cv:=sX cw
     have ct:=nx cu
     have co:=(nx (ov wr (some W.heap.size))).trans cq
     refine dW (v:= .tuple #[.agg #[.int .i64 5,.int .i64 0,.string ⟨#[]⟩,.slice A vs.length c,.slice K ks.length d],.int .i64 (d_ (a_ s) (k+1):Nat),.int .i64 F,.int .i64 0]) (pN gB _ _ W.heap.size _ [.int .i64 5,.int .i64 0,.string ⟨#[]⟩,.slice A vs.length c,.slice K ks.length d] _ rfl (by first|(with_reducible exact cx)|(with_reducible exact hC)) ed rfl m8) rfl ?_
     rw[HR.out]
     exact⟨_,rfl,RepS.keeps (Keeps.grown (by first|(with_reducible exact ct)|(with_reducible exact co)) (fun b (h:_≤b) e=>by injection e with e;omega)) (fun b (h:_≤b) _=>show W.heap.size≤b by omega) _ _ aW.out,(by first|(with_reducible exact cv)|(with_reducible exact cr))⟩
  ·obtain⟨c,bD⟩:=yaa (f_ (a_ s) k)
   have ch:Hid (c≠ -1→k<s.size):=dM (fun h=>by rw[←ad.out];exact oq (by rw[←bD];exact h))
   have bf:Hid (nV (a_ s) val i left=if ba=true then rD (a_ s) val true (nW (a_ s) val true f false) k F ks vs else if c≠44 then(zeroJ,k,F,50)else rD (a_ s) val true (nW (a_ s) val true f false) (d_ (a_ s) (k+1)) F ks vs):=dM (by rw[bG.out,nW,bD];exact dN aP)
   rw[←bD]at HC aP
   obtain⟨o1,o2⟩:=o8 aP
   clear bD aP bG
   obtain⟨r0,r1,r2,r3,r4⟩:wr.cell? ⟨W.heap.size+1,0,none⟩=some (.int .i64 5)∧wr.cell? ⟨W.heap.size+1,1,none⟩=some (.int .i64 0)∧wr.cell? ⟨W.heap.size+1,2,none⟩=some (.string ⟨#[]⟩)∧wr.cell? ⟨W.heap.size+1,3,none⟩=some (vL)∧wr.cell? ⟨W.heap.size+1,4,none⟩=some (vK):=⟨N.cell 0,N.cell 1,N.cell 2,N.cell 3,N.cell 4⟩
   have cj:Hid (ba=true→nV (a_ s) val i left=rD (a_ s) val true (nW (a_ s) val true f false) k F ks vs):=dM (fun h=>bf.out.trans (dP h))
   clear bM
   go_upto_if 41 with(go_at_call 101;(with_reducible refine(HC.out _).mono ?_);rintro e w' ⟨rfl,rfl⟩)
   go_cut[1]from 35 to 139 (fun v wx=> ∃a1:Nat,v= .int .i64 (a1:Int)∧k≤a1∧a1≤s.size∧wx=wr∧Hid (nV (a_ s) val i left=rD (a_ s) val true (nW (a_ s) val true f false) a1 F ks vs))
   case first=>
    cases ba with
    |true=>as_aux_lemma=>
     go_wp2_with fail
     go_meet
     case rel=>exact⟨k,rfl,dQ _,hk,rfl,dM (cj.out (by first|rfl|trivial))⟩
    |false=>
     by_cases a7:c=44
     ·as_aux_lemma=>
       have cC:=ch.out (by omega)
       have cg:=dM (fun W:World=>Ef s ((k:Int)+1) (k+1) W (by omega) (by omega) (by omega))
       have aJ:=BQ s.size (a_ s) (k+1) (by rw[ad.out];omega) (by rw[ad.out];omega)
       rw[ad.out]at aJ
       have bd:Hid (nV (a_ s) val i left=rD (a_ s) val true (nW (a_ s) val true f false) (d_ (a_ s) (k+1)) F ks vs):=dM (bf.out.trans ((dN (by decide)).trans (dN (fun h=>h a7))))
       obtain⟨a1,cc⟩: ∃a,a=d_ (a_ s) (k+1):=⟨_,rfl⟩
       rw[←cc]at cg aJ bd
       obtain⟨m1,m2⟩:=pY a7
       clear bf a7 cc
       go_wp2_with(first|(go_at_call 101;(with_reducible refine(HC.out _).mono ?_);rintro e w' ⟨rfl,rfl⟩)|(go_at_call 73;(with_reducible refine(cg.out _).mono ?_);rintro e w' ⟨rfl,rfl⟩))
       go_meet
       case rel=>exact⟨a1,rfl,by omega,aJ.2,rfl,bd⟩
     ·as_aux_lemma=>
       have HR:Hid (nV (a_ s) val i left=(zeroJ,k,F,50)):=dM (bf.out.trans ((dN (by decide)).trans (dP a7)))
       obtain⟨m1,m2⟩:=o8 a7
       clear bf a7
       go_wp2_with(first|(go_at_call 101;(with_reducible refine(HC.out _).mono ?_);rintro e w' ⟨rfl,rfl⟩)|(refine nn rfl none rfl _ (.tmp 8) _ rfl W.heap.size 0 [.int .i64 0,.int .i64 0,.string ⟨#[]⟩,.slice none 0 0,.slice none 0 0] rfl rfl _ _ L (by simp[zeros5]) m8 (by intro v q;simp at q;rcases q with rfl|rfl|rfl|rfl|rfl<;>rfl) ?_;intro w9 ab U;rw[nr _ _ (by simp[zeros5])]at ab;have az:=dM (fq HB.out U (eV HB.out) (by intro k hk;injection hk with hk;omega));have bt:=dM U;clear U;try go_frame))
       refine dW (v:= .tuple #[.agg #[.int .i64 0,.int .i64 0,.string ⟨#[]⟩,.slice none 0 0,.slice none 0 0],.int .i64 (k:Int),.int .i64 F,.int .i64 50]) (pN gB _ _ W.heap.size _ [.int .i64 0,.int .i64 0,.string ⟨#[]⟩,.slice none 0 0,.slice none 0 0] _ rfl ab ed rfl m8) rfl ?_
       rw[HR.out]
       exact⟨_,rfl,RepS.zero _ _,az.out⟩
   case rest=>
    obtain⟨a1,rfl,cE,cH,bK,bd⟩:=hcut
    replace bK:=bK.symm
    subst bK
    clear bf cj HC o1 o2 ch
    go_upto_if 55 with fail
    go_cut[1,15]from 35 to 139 (fun v u O=> ∃(a3:Nat) (T:ByteArray),v= .int .i64 (a3:Int)∧u= .string T∧T.size≤30000∧k≤a3∧a3≤s.size∧Below wr.heap.size wr O∧Hid (nV (a_ s) val i left=s8 (a_ s) val true (nW (a_ s) val true f false) a3 F T ks vs))
    case first=>
     skip
     have HQ:=dM (fun W:World=>Ni s a1 W (by omega) (by omega))
     have a6:=FC (a_ s) a1
     have bB:=J7 (a_ s) a1
     have bh:=Io (a_ s) a1
     obtain⟨r,hr⟩:=yaa (nE (a_ s) a1)
     have bc:Hid (nV (a_ s) val i left=if r.2.2≠0 then(zeroJ,r.2.1,F,r.2.2)else if nw ks (toS r.1)=true then(zeroJ,a1,F,52)else if f_ (a_ s) (d_ (a_ s) r.2.1)≠58 then(zeroJ,d_ (a_ s) r.2.1,F,50)else s8 (a_ s) val true (nW (a_ s) val true f false) (d_ (a_ s) (d_ (a_ s) r.2.1+1)) F (toS r.1) ks vs):=dM (by rw[bd.out,hr];rfl)
     rw[←hr]at HQ a6 bB bh
     obtain⟨t,b,er⟩:=r
     rw[ad.out]at a6 bB
     simp only at HQ a6 bB bh bc
     obtain⟨T,hT⟩:=yaa (toS t)
     have cd:T.size≤30000:=by rw[hT,qc];omega
     rw[←hT]at HQ bc
     clear hr hT bB bd
     by_cases aO:er=0
     ·have bp:Hid (nV (a_ s) val i left=if nw ks T=true then(zeroJ,a1,F,52)else if f_ (a_ s) (d_ (a_ s) b)≠58 then(zeroJ,d_ (a_ s) b,F,50)else s8 (a_ s) val true (nW (a_ s) val true f false) (d_ (a_ s) (d_ (a_ s) b+1)) F T ks vs):=dM (bc.out.trans (dN (fun h=>h aO)))
      have cn:=a6 aO
      have aB:=bh aO
      obtain⟨q1,q2⟩:=pY aO
      have bg:=dM (fun(W':World) (ha:RepJ W' (.mk 5 0 ⟨#[]⟩ vs ks) (.agg #[.int .i64 5,.int .i64 0,.string ⟨#[]⟩,vL,vK]))=>Mk (.mk 5 0 ⟨#[]⟩ vs ks) _ T W' ha (by omega))
      have bY:(oD (.mk 5 0 ⟨#[]⟩ vs ks) T).isSome=nw ks T:=u_ T ci.out
      rw[bY]at bg
      obtain⟨y,hy⟩:=yaa ((oD (.mk 5 0 ⟨#[]⟩ vs ks) T).getD zeroJ)
      rw[←hy]at bg
      obtain⟨g,hg⟩:=yaa (nw ks T)
      rw[←hg]at bg bp
      clear bc aO a6 bh bY hy hg
      cases g with
      |true=>as_aux_lemma=>
       have HR:Hid (nV (a_ s) val i left=(zeroJ,a1,F,52)):=dM (bp.out.trans (dP rfl))
       clear bp
       go_wp2_with(first|(go_at_call 105;(with_reducible refine(HQ.out _).mono ?_);rintro e R ⟨rfl,V⟩;have ai:=dM V;have bE:=Blk.below L V L.lt;have X:=Blk.below N V N.lt;have bv:=yab HB V;obtain⟨q0,q1,q2,q3,q4⟩:R.cell? ⟨W.heap.size+1,0,none⟩=some (.int .i64 5)∧R.cell? ⟨W.heap.size+1,1,none⟩=some (.int .i64 0)∧R.cell? ⟨W.heap.size+1,2,none⟩=some (.string ⟨#[]⟩)∧R.cell? ⟨W.heap.size+1,3,none⟩=some (vL)∧R.cell? ⟨W.heap.size+1,4,none⟩=some (vK):=⟨X.cell 0,X.cell 1,X.cell 2,X.cell 3,X.cell 4⟩;clear V)|(go_at_call 42;(with_reducible refine(bg.out _ (RepS.toJ _ _ (RepS.keeps (Keeps.below ai.out (fun _ _ h=>h)) (fun _ h _=>h) _ _ aW.out))).mono ?_);rintro e wg ⟨v0,rfl,aI,aB⟩;obtain⟨bR,B,b9,rfl,_,ar,_,_⟩:=aI.open;obtain⟨M,m9,rfl,_,_⟩:=ar.open;obtain⟨y0,aH⟩: ∃a,a=y.kind:=⟨_,rfl⟩;obtain⟨y1,aG⟩: ∃a,a=y.n:=⟨_,rfl⟩;obtain⟨y2,aF⟩: ∃a,a=y.s:=⟨_,rfl⟩;obtain⟨y3,aE⟩: ∃a,a=y.l.length:=⟨_,rfl⟩;obtain⟨y4,aD⟩: ∃a,a=y.k.length:=⟨_,rfl⟩;rw[←aH,←aG,←aF,←aE,←aD];clear aH aG aF aE aD aI ar;have bx:=yab ai aB;clear aB)|(refine nG rfl (some 19) rfl _ rfl _ sU ?_;intro bl wa aN bj aL;have bs:=dM aL;have bu:=dM aN;clear aL aN;try go_frame)|(refine nn rfl none rfl _ (.tmp 19) _ rfl bl 0 [.int .i64 y0,.int .i64 y1,.string y2,.slice B y3 b9,.slice M y4 m9] rfl rfl _ _ bj (by simp[zeros5]) m8 (by intro v q;simp at q;rcases q with rfl|rfl|rfl|rfl|rfl<;>rfl) ?_;intro O bi aK;have D:=dM (yM bx.out bs.out bu.out aK);have aC:=dM (dV bA D.out.size);clear aK bi;have ah:=Blk.below L D.out L.lt;have G:=Blk.below N D.out N.lt;have af:=dM (HB.out.trans (D.out.mono HB.out.size));obtain⟨p0,p1,p2,p3,p4⟩:O.cell? ⟨W.heap.size+1,0,none⟩=some (.int .i64 5)∧O.cell? ⟨W.heap.size+1,1,none⟩=some (.int .i64 0)∧O.cell? ⟨W.heap.size+1,2,none⟩=some (.string ⟨#[]⟩)∧O.cell? ⟨W.heap.size+1,3,none⟩=some (vL)∧O.cell? ⟨W.heap.size+1,4,none⟩=some (vK):=⟨G.cell 0,G.cell 1,G.cell 2,G.cell 3,G.cell 4⟩;try go_frame)|(refine nn rfl none rfl _ (.tmp 8) _ rfl W.heap.size 0 [.int .i64 0,.int .i64 0,.string ⟨#[]⟩,.slice none 0 0,.slice none 0 0] rfl rfl _ _ ah (by simp[zeros5]) m8 (by intro v q;simp at q;rcases q with rfl|rfl|rfl|rfl|rfl<;>rfl) ?_;intro w9 ab U;rw[nr _ _ (by simp[zeros5])]at ab;have az:=dM (fq af.out U (eV af.out) (by intro k hk;injection hk with hk;omega));have bt:=dM U;clear U;try go_frame))
       refine dW (v:= .tuple #[.agg #[.int .i64 0,.int .i64 0,.string ⟨#[]⟩,.slice none 0 0,.slice none 0 0],.int .i64 (a1:Int),.int .i64 F,.int .i64 52]) (pN gB _ _ W.heap.size _ [.int .i64 0,.int .i64 0,.string ⟨#[]⟩,.slice none 0 0,.slice none 0 0] _ rfl ab ed rfl m8) rfl ?_
       rw[HR.out]
       exact⟨_,rfl,RepS.zero _ _,az.out⟩
      |false=>
       have bN:=dM (fun W:World=>Hp s b W (by omega) cn)
       have bU:=BQ s.size (a_ s) b (by rw[ad.out];omega) (by rw[ad.out];omega)
       rw[ad.out]at bU
       have bo:Hid (nV (a_ s) val i left=if f_ (a_ s) (d_ (a_ s) b)≠58 then(zeroJ,d_ (a_ s) b,F,50)else s8 (a_ s) val true (nW (a_ s) val true f false) (d_ (a_ s) (d_ (a_ s) b+1)) F T ks vs):=dM (bp.out.trans (dN (by decide)))
       obtain⟨a2,cb⟩: ∃a,a=d_ (a_ s) b:=⟨_,rfl⟩
       rw[←cb]at bN bU bo
       have bI:=dM (fun W:World=>tl s a2 W (by omega) (by omega))
       have bP:Hid (f_ (a_ s) a2≠ -1→a2<s.size):=dM (fun h=>by rw[←ad.out];exact oq h)
       clear bp cb
       by_cases aT:f_ (a_ s) a2=58
       ·as_aux_lemma=>
         have cJ:=bP.out (by omega)
         have cf:=dM (fun W:World=>Ef s ((a2:Int)+1) (a2+1) W (by omega) (by omega) (by omega))
         have bL:=BQ s.size (a_ s) (a2+1) (by rw[ad.out];omega) (by rw[ad.out];omega)
         rw[ad.out]at bL
         have bn:Hid (nV (a_ s) val i left=s8 (a_ s) val true (nW (a_ s) val true f false) (d_ (a_ s) (a2+1)) F T ks vs):=dM (bo.out.trans (dN (fun h=>h aT)))
         obtain⟨a3,ca⟩: ∃a,a=d_ (a_ s) (a2+1):=⟨_,rfl⟩
         rw[←ca]at cf bL bn
         rw[aT]at bI
         clear bo aT ca bP
         go_wp2_with(first|(go_at_call 105;(with_reducible refine(HQ.out _).mono ?_);rintro e R ⟨rfl,V⟩;have ai:=dM V;have bE:=Blk.below L V L.lt;have X:=Blk.below N V N.lt;have bv:=yab HB V;obtain⟨q0,q1,q2,q3,q4⟩:R.cell? ⟨W.heap.size+1,0,none⟩=some (.int .i64 5)∧R.cell? ⟨W.heap.size+1,1,none⟩=some (.int .i64 0)∧R.cell? ⟨W.heap.size+1,2,none⟩=some (.string ⟨#[]⟩)∧R.cell? ⟨W.heap.size+1,3,none⟩=some (vL)∧R.cell? ⟨W.heap.size+1,4,none⟩=some (vK):=⟨X.cell 0,X.cell 1,X.cell 2,X.cell 3,X.cell 4⟩;clear V)|(go_at_call 42;(with_reducible refine(bg.out _ (RepS.toJ _ _ (RepS.keeps (Keeps.below ai.out (fun _ _ h=>h)) (fun _ h _=>h) _ _ aW.out))).mono ?_);rintro e wg ⟨v0,rfl,aI,aB⟩;obtain⟨bR,B,b9,rfl,_,ar,_,_⟩:=aI.open;obtain⟨M,m9,rfl,_,_⟩:=ar.open;obtain⟨y0,aH⟩: ∃a,a=y.kind:=⟨_,rfl⟩;obtain⟨y1,aG⟩: ∃a,a=y.n:=⟨_,rfl⟩;obtain⟨y2,aF⟩: ∃a,a=y.s:=⟨_,rfl⟩;obtain⟨y3,aE⟩: ∃a,a=y.l.length:=⟨_,rfl⟩;obtain⟨y4,aD⟩: ∃a,a=y.k.length:=⟨_,rfl⟩;rw[←aH,←aG,←aF,←aE,←aD];clear aH aG aF aE aD aI ar;have bx:=yab ai aB;clear aB)|(refine nG rfl (some 19) rfl _ rfl _ sU ?_;intro bl wa aN bj aL;have bs:=dM aL;have bu:=dM aN;clear aL aN;try go_frame)|(refine nn rfl none rfl _ (.tmp 19) _ rfl bl 0 [.int .i64 y0,.int .i64 y1,.string y2,.slice B y3 b9,.slice M y4 m9] rfl rfl _ _ bj (by simp[zeros5]) m8 (by intro v q;simp at q;rcases q with rfl|rfl|rfl|rfl|rfl<;>rfl) ?_;intro O bi aK;have D:=dM (yM bx.out bs.out bu.out aK);have aC:=dM (dV bA D.out.size);clear aK bi;have ah:=Blk.below L D.out L.lt;have G:=Blk.below N D.out N.lt;have af:=dM (HB.out.trans (D.out.mono HB.out.size));obtain⟨p0,p1,p2,p3,p4⟩:O.cell? ⟨W.heap.size+1,0,none⟩=some (.int .i64 5)∧O.cell? ⟨W.heap.size+1,1,none⟩=some (.int .i64 0)∧O.cell? ⟨W.heap.size+1,2,none⟩=some (.string ⟨#[]⟩)∧O.cell? ⟨W.heap.size+1,3,none⟩=some (vL)∧O.cell? ⟨W.heap.size+1,4,none⟩=some (vK):=⟨G.cell 0,G.cell 1,G.cell 2,G.cell 3,G.cell 4⟩;try go_frame)|(go_at_call 73;(with_reducible refine(bN.out _).mono ?_);rintro e w' ⟨rfl,rfl⟩)|(go_at_call 101;(with_reducible refine(bI.out _).mono ?_);rintro e w' ⟨rfl,rfl⟩)|(go_at_call 73;(with_reducible refine(cf.out _).mono ?_);rintro e w' ⟨rfl,rfl⟩))
         go_meet
         case rel=>exact⟨a3,T,rfl,rfl,cd,by omega,bL.2,D.out,bn⟩
       ·as_aux_lemma=>
         have HR:Hid (nV (a_ s) val i left=(zeroJ,a2,F,50)):=dM (bo.out.trans (dP aT))
         obtain⟨c0,b7⟩: ∃c,c=f_ (a_ s) a2:=⟨_,rfl⟩
         rw[←b7]at bI aT
         obtain⟨u1,u2⟩:=o8 aT
         clear aT bo b7 bP
         go_wp2_with(first|(go_at_call 105;(with_reducible refine(HQ.out _).mono ?_);rintro e R ⟨rfl,V⟩;have ai:=dM V;have bE:=Blk.below L V L.lt;have X:=Blk.below N V N.lt;have bv:=yab HB V;obtain⟨q0,q1,q2,q3,q4⟩:R.cell? ⟨W.heap.size+1,0,none⟩=some (.int .i64 5)∧R.cell? ⟨W.heap.size+1,1,none⟩=some (.int .i64 0)∧R.cell? ⟨W.heap.size+1,2,none⟩=some (.string ⟨#[]⟩)∧R.cell? ⟨W.heap.size+1,3,none⟩=some (vL)∧R.cell? ⟨W.heap.size+1,4,none⟩=some (vK):=⟨X.cell 0,X.cell 1,X.cell 2,X.cell 3,X.cell 4⟩;clear V)|(go_at_call 42;(with_reducible refine(bg.out _ (RepS.toJ _ _ (RepS.keeps (Keeps.below ai.out (fun _ _ h=>h)) (fun _ h _=>h) _ _ aW.out))).mono ?_);rintro e wg ⟨v0,rfl,aI,aB⟩;obtain⟨bR,B,b9,rfl,_,ar,_,_⟩:=aI.open;obtain⟨M,m9,rfl,_,_⟩:=ar.open;obtain⟨y0,aH⟩: ∃a,a=y.kind:=⟨_,rfl⟩;obtain⟨y1,aG⟩: ∃a,a=y.n:=⟨_,rfl⟩;obtain⟨y2,aF⟩: ∃a,a=y.s:=⟨_,rfl⟩;obtain⟨y3,aE⟩: ∃a,a=y.l.length:=⟨_,rfl⟩;obtain⟨y4,aD⟩: ∃a,a=y.k.length:=⟨_,rfl⟩;rw[←aH,←aG,←aF,←aE,←aD];clear aH aG aF aE aD aI ar;have bx:=yab ai aB;clear aB)|(refine nG rfl (some 19) rfl _ rfl _ sU ?_;intro bl wa aN bj aL;have bs:=dM aL;have bu:=dM aN;clear aL aN;try go_frame)|(refine nn rfl none rfl _ (.tmp 19) _ rfl bl 0 [.int .i64 y0,.int .i64 y1,.string y2,.slice B y3 b9,.slice M y4 m9] rfl rfl _ _ bj (by simp[zeros5]) m8 (by intro v q;simp at q;rcases q with rfl|rfl|rfl|rfl|rfl<;>rfl) ?_;intro O bi aK;have D:=dM (yM bx.out bs.out bu.out aK);have aC:=dM (dV bA D.out.size);clear aK bi;have ah:=Blk.below L D.out L.lt;have G:=Blk.below N D.out N.lt;have af:=dM (HB.out.trans (D.out.mono HB.out.size));obtain⟨p0,p1,p2,p3,p4⟩:O.cell? ⟨W.heap.size+1,0,none⟩=some (.int .i64 5)∧O.cell? ⟨W.heap.size+1,1,none⟩=some (.int .i64 0)∧O.cell? ⟨W.heap.size+1,2,none⟩=some (.string ⟨#[]⟩)∧O.cell? ⟨W.heap.size+1,3,none⟩=some (vL)∧O.cell? ⟨W.heap.size+1,4,none⟩=some (vK):=⟨G.cell 0,G.cell 1,G.cell 2,G.cell 3,G.cell 4⟩;try go_frame)|(go_at_call 73;(with_reducible refine(bN.out _).mono ?_);rintro e w' ⟨rfl,rfl⟩)|(go_at_call 101;(with_reducible refine(bI.out _).mono ?_);rintro e w' ⟨rfl,rfl⟩)|(refine nn rfl none rfl _ (.tmp 8) _ rfl W.heap.size 0 [.int .i64 0,.int .i64 0,.string ⟨#[]⟩,.slice none 0 0,.slice none 0 0] rfl rfl _ _ ah (by simp[zeros5]) m8 (by intro v q;simp at q;rcases q with rfl|rfl|rfl|rfl|rfl<;>rfl) ?_;intro w9 ab U;rw[nr _ _ (by simp[zeros5])]at ab;have az:=dM (fq af.out U (eV af.out) (by intro k hk;injection hk with hk;omega));have bt:=dM U;clear U;try go_frame))
         refine dW (v:= .tuple #[.agg #[.int .i64 0,.int .i64 0,.string ⟨#[]⟩,.slice none 0 0,.slice none 0 0],.int .i64 (a2:Int),.int .i64 F,.int .i64 50]) (pN gB _ _ W.heap.size _ [.int .i64 0,.int .i64 0,.string ⟨#[]⟩,.slice none 0 0,.slice none 0 0] _ rfl ab ed rfl m8) rfl ?_
         rw[HR.out]
         exact⟨_,rfl,RepS.zero _ _,az.out⟩
     ·as_aux_lemma=>
       have HR:Hid (nV (a_ s) val i left=(zeroJ,b,F,er)):=dM (bc.out.trans (dP aO))
       obtain⟨q1,q2⟩:=o8 aO
       clear bc aO a6 bh
       go_wp2_with(first|(go_at_call 105;(with_reducible refine(HQ.out _).mono ?_);rintro e R ⟨rfl,V⟩;have ai:=dM V;have bE:=Blk.below L V L.lt;have X:=Blk.below N V N.lt;have bv:=yab HB V;obtain⟨q0,q1,q2,q3,q4⟩:R.cell? ⟨W.heap.size+1,0,none⟩=some (.int .i64 5)∧R.cell? ⟨W.heap.size+1,1,none⟩=some (.int .i64 0)∧R.cell? ⟨W.heap.size+1,2,none⟩=some (.string ⟨#[]⟩)∧R.cell? ⟨W.heap.size+1,3,none⟩=some (vL)∧R.cell? ⟨W.heap.size+1,4,none⟩=some (vK):=⟨X.cell 0,X.cell 1,X.cell 2,X.cell 3,X.cell 4⟩;clear V)|(refine nn rfl none rfl _ (.tmp 8) _ rfl W.heap.size 0 [.int .i64 0,.int .i64 0,.string ⟨#[]⟩,.slice none 0 0,.slice none 0 0] rfl rfl _ _ bE (by simp[zeros5]) m8 (by intro v q;simp at q;rcases q with rfl|rfl|rfl|rfl|rfl<;>rfl) ?_;intro w9 ab U;rw[nr _ _ (by simp[zeros5])]at ab;have az:=dM (fq bv.out U (eV bv.out) (by intro k hk;injection hk with hk;omega));have bt:=dM U;clear U;try go_frame))
       refine dW (v:= .tuple #[.agg #[.int .i64 0,.int .i64 0,.string ⟨#[]⟩,.slice none 0 0,.slice none 0 0],.int .i64 (b:Int),.int .i64 F,.int .i64 er]) (pN gB _ _ W.heap.size _ [.int .i64 0,.int .i64 0,.string ⟨#[]⟩,.slice none 0 0,.slice none 0 0] _ rfl ab ed rfl m8) rfl ?_
       rw[HR.out]
       exact⟨_,rfl,RepS.zero _ _,az.out⟩
    case rest=>
     obtain⟨a3,T,rfl,rfl,cd,cF,cI,aZ,bn⟩:=hcut
     rename World=>O
     have D:=dM aZ
     have aC:=dM (dV bA aZ.size)
     have ah:=Blk.below L aZ L.lt
     have G:=Blk.below N aZ N.lt
     have af:=yab HB aZ
     obtain⟨p0,p1,p2,p3,p4⟩:O.cell? ⟨W.heap.size+1,0,none⟩=some (.int .i64 5)∧O.cell? ⟨W.heap.size+1,1,none⟩=some (.int .i64 0)∧O.cell? ⟨W.heap.size+1,2,none⟩=some (.string ⟨#[]⟩)∧O.cell? ⟨W.heap.size+1,3,none⟩=some (vL)∧O.cell? ⟨W.heap.size+1,4,none⟩=some (vK):=⟨G.cell 0,G.cell 1,G.cell 2,G.cell 3,G.cell 4⟩
     clear aZ bd
     have bm:=dM (fun W:World=>HV.out.calls a3 F W (by omega) b5 bZ)
     have bC:=HV.out.moves a3 F (by omega) b5 bZ
     obtain⟨r,hr⟩:=yaa (val a3 F)
     have bH:Hid (nV (a_ s) val i left=if r.2.2.2≠0 then(zeroJ,r.2.1,r.2.2.1,r.2.2.2)else if f_ (a_ s) r.2.1≠44∧f_ (a_ s) r.2.1≠125 then(zeroJ,r.2.1,r.2.2.1,50)else nW (a_ s) val true f false r.2.1 r.2.2.1 (nF T r.1 false ks vs).1 (nF T r.1 false ks vs).2):=dM (by
      rw[bn.out,hr];rfl)
     rw[←hr]at bm bC
     clear hr bn
     obtain⟨x,p,n,ev⟩:=r
     by_cases he:ev=0
     ·obtain⟨cA,bT,n0,n1⟩:a3<p∧p≤s.size∧0≤n∧n≤256:=bC he
      have bJ:=dM (fun W:World=>tl s p W (by omega) (by omega))
      have aR:Hid (nV (a_ s) val i left=if f_ (a_ s) p≠44∧f_ (a_ s) p≠125 then(zeroJ,p,n,50)else nW (a_ s) val true f false p n (nF T x false ks vs).1 (nF T x false ks vs).2):=dM (bH.out.trans (dN (fun h=>h he)))
      have br:=dM (fun(W':World) (vx:Value) (h1:RepS W' (fun b=>W.heap.size+2≤b∧b<W'.heap.size) (.mk 5 0 ⟨#[]⟩ vs ks) (.agg #[.int .i64 5,.int .i64 0,.string ⟨#[]⟩,vL,vK])) (h2:RepS W' (fun b=>W.heap.size+2≤b∧b<W'.heap.size) x vx)=>xm 5 0 ⟨#[]⟩ ks vs T x (.agg #[.int .i64 5,.int .i64 0,.string ⟨#[]⟩,vL,vK]) vx W' (fun b=>W.heap.size+2≤b∧b<W'.heap.size) (fun b h=>h.2) h1 h2 ci.out (by omega) (by omega))
      have bW:=qS T x ks false vs
      unfold vV at br
      obtain⟨P,hP⟩:=yaa (nF T x false ks vs)
      rw[←hP]at br aR bW
      obtain⟨bS,ck⟩:=bW
      rw[dN (by decide)]at ck
      obtain⟨v1,v2⟩:=pY he
      obtain⟨c2,b6⟩: ∃c,c=f_ (a_ s) p:=⟨_,rfl⟩
      rw[←b6]at bJ aR
      clear he bC bH b6 hP
      by_cases aU:c2=44
      ·as_aux_lemma=>
        obtain⟨g1,g2⟩:=pY aU
        have HR:Hid (nV (a_ s) val i left=nW (a_ s) val true f false p n P.1 P.2):=dM (aR.out.trans (dN (fun h=>h.1 aU)))
        clear aU aR
        go_wp2_with(first|(go_at_call 72;(with_reducible refine(bm.out _).mono ?_);rintro e w1 ⟨v,rfl,aa,aw⟩;obtain⟨vk,A,c9,rfl,_,⟨K,d9,rfl,_,_⟩,_,_⟩:=aa.open;obtain⟨x0,ap⟩: ∃a,a=x.kind:=⟨_,rfl⟩;obtain⟨x1,ao⟩: ∃a,a=x.n:=⟨_,rfl⟩;obtain⟨x2,am⟩: ∃a,a=x.s:=⟨_,rfl⟩;obtain⟨x3,ak⟩: ∃a,a=x.l.length:=⟨_,rfl⟩;obtain⟨x4,aj⟩: ∃a,a=x.k.length:=⟨_,rfl⟩;rw[←ap,←ao,←am,←ak,←aj]at aa⊢;have aV:=dM aa;have aY:=dM aw;clear aa ap ao am ak aj aw)|(refine nG rfl (some 21) rfl _ rfl _ sU ?_;intro Z w2 av aS au;have ay:=dM au;have ax:=dM av;clear au av;try go_frame)|(refine nn rfl none rfl _ (.tmp 21) _ rfl Z 0 [.int .i64 x0,.int .i64 x1,.string x2,.slice A x3 c9,.slice K x4 d9] rfl rfl _ _ aS (by simp[zeros5]) m8 (by intro v q;simp at q;rcases q with rfl|rfl|rfl|rfl|rfl<;>rfl) ?_;intro E Y ae;rw[nr _ _ (by simp[zeros5])]at Y;have I:=dM (yM aY.out ay.out ax.out ae);have bb:=dM (RepS.keeps (BS ay.out ax.out ae) (fun _ h _=>h) _ _ aV.out);clear ae;have bz:=dM (af.out.trans (I.out.mono af.out.size));have aA:=Blk.below ah I.out ah.lt;have Q:=Blk.below G I.out G.lt;obtain⟨b0,b1,b2,b3,b4⟩:E.cell? ⟨W.heap.size+1,0,none⟩=some (.int .i64 5)∧E.cell? ⟨W.heap.size+1,1,none⟩=some (.int .i64 0)∧E.cell? ⟨W.heap.size+1,2,none⟩=some (.string ⟨#[]⟩)∧E.cell? ⟨W.heap.size+1,3,none⟩=some (vL)∧E.cell? ⟨W.heap.size+1,4,none⟩=some (vK):=⟨Q.cell 0,Q.cell 1,Q.cell 2,Q.cell 3,Q.cell 4⟩;obtain⟨d0,d1,d2,d3,d4⟩:E.cell? ⟨Z,0,none⟩=some (.int .i64 x0)∧E.cell? ⟨Z,1,none⟩=some (.int .i64 x1)∧E.cell? ⟨Z,2,none⟩=some (.string x2)∧E.cell? ⟨Z,3,none⟩=some (.slice A x3 c9)∧E.cell? ⟨Z,4,none⟩=some (.slice K x4 d9):=⟨Y.cell 0,Y.cell 1,Y.cell 2,Y.cell 3,Y.cell 4⟩;try go_frame)|(go_at_call 140;(with_reducible refine(br.out E _ (RepS.keeps (Keeps.below (D.out.trans (I.out.mono D.out.size)) (fun _ _ h=>h)) (fun b h hl=>⟨h,dX hl (D.out.trans (I.out.mono D.out.size)).size⟩) _ _ aW.out) (RepS.keeps (Keeps.refl _ _) (fun b h hl=>⟨dV aC.out h,hl⟩) _ _ bb.out)).mono ?_);rintro e w4 ⟨vp,rfl,aq,ag⟩;obtain⟨bQ,Ap,cp,rfl,_,⟨Kp,dp,rfl,_,_⟩,_,_⟩:=aq.open;have bq:=dM aq;have bw:=dM ag;have bk:=Blk.below Q ag Q.lt;have b8:=Blk.below aA ag aA.lt;clear aq ag)|(refine nn rfl none rfl _ (.tmp 13) _ rfl (W.heap.size+1) 0 [.int .i64 5,.int .i64 0,.string ⟨#[]⟩,.slice Ap P.2.length cp,.slice Kp P.1.length dp] rfl rfl _ _ bk (by simp) m8 (by intro v q;simp at q;rcases q with rfl|rfl|rfl|rfl|rfl<;>rfl) ?_;intro w5 aQ aM;rw[nr _ _ (by simp)]at aQ;have aX:=dM (ObjInv.put HI.out (D.out.trans ((I.out.mono D.out.size).trans (bw.out.mono (dV D.out.size I.out.size)))) (RepS.keeps (Keeps.refl _ _) (fun b h _=>h.elim (fun h=>h.1) (fun h=>dV aC.out (dV I.out.size h))) _ _ bq.out) aQ aM);clear aM;try go_frame)|(go_at_call 101;(with_reducible refine(bJ.out _).mono ?_);rintro e w' ⟨rfl,rfl⟩))
        go_roundw
        case rel=>exact⟨p,f,n,false,P.1,P.2,_,_,rfl,rfl,rfl,bT,by omega,n0,n1,by omega,bS,HR.out,aX.out⟩
        case measure=>simp[intOf];omega
      ·obtain⟨g1,g2⟩:=o8 aU
       by_cases a8:c2=125
       ·as_aux_lemma=>
         obtain⟨g3,g4⟩:=pY a8
         have HR:Hid (nV (a_ s) val i left=nW (a_ s) val true f false p n P.1 P.2):=dM (aR.out.trans (dN (fun h=>h.2 a8)))
         clear aU a8 aR
         go_wp2_with(first|(go_at_call 72;(with_reducible refine(bm.out _).mono ?_);rintro e w1 ⟨v,rfl,aa,aw⟩;obtain⟨vk,A,c9,rfl,_,⟨K,d9,rfl,_,_⟩,_,_⟩:=aa.open;obtain⟨x0,ap⟩: ∃a,a=x.kind:=⟨_,rfl⟩;obtain⟨x1,ao⟩: ∃a,a=x.n:=⟨_,rfl⟩;obtain⟨x2,am⟩: ∃a,a=x.s:=⟨_,rfl⟩;obtain⟨x3,ak⟩: ∃a,a=x.l.length:=⟨_,rfl⟩;obtain⟨x4,aj⟩: ∃a,a=x.k.length:=⟨_,rfl⟩;rw[←ap,←ao,←am,←ak,←aj]at aa⊢;have aV:=dM aa;have aY:=dM aw;clear aa ap ao am ak aj aw)|(refine nG rfl (some 21) rfl _ rfl _ sU ?_;intro Z w2 av aS au;have ay:=dM au;have ax:=dM av;clear au av;try go_frame)|(refine nn rfl none rfl _ (.tmp 21) _ rfl Z 0 [.int .i64 x0,.int .i64 x1,.string x2,.slice A x3 c9,.slice K x4 d9] rfl rfl _ _ aS (by simp[zeros5]) m8 (by intro v q;simp at q;rcases q with rfl|rfl|rfl|rfl|rfl<;>rfl) ?_;intro E Y ae;rw[nr _ _ (by simp[zeros5])]at Y;have I:=dM (yM aY.out ay.out ax.out ae);have bb:=dM (RepS.keeps (BS ay.out ax.out ae) (fun _ h _=>h) _ _ aV.out);clear ae;have bz:=dM (af.out.trans (I.out.mono af.out.size));have aA:=Blk.below ah I.out ah.lt;have Q:=Blk.below G I.out G.lt;obtain⟨b0,b1,b2,b3,b4⟩:E.cell? ⟨W.heap.size+1,0,none⟩=some (.int .i64 5)∧E.cell? ⟨W.heap.size+1,1,none⟩=some (.int .i64 0)∧E.cell? ⟨W.heap.size+1,2,none⟩=some (.string ⟨#[]⟩)∧E.cell? ⟨W.heap.size+1,3,none⟩=some (vL)∧E.cell? ⟨W.heap.size+1,4,none⟩=some (vK):=⟨Q.cell 0,Q.cell 1,Q.cell 2,Q.cell 3,Q.cell 4⟩;obtain⟨d0,d1,d2,d3,d4⟩:E.cell? ⟨Z,0,none⟩=some (.int .i64 x0)∧E.cell? ⟨Z,1,none⟩=some (.int .i64 x1)∧E.cell? ⟨Z,2,none⟩=some (.string x2)∧E.cell? ⟨Z,3,none⟩=some (.slice A x3 c9)∧E.cell? ⟨Z,4,none⟩=some (.slice K x4 d9):=⟨Y.cell 0,Y.cell 1,Y.cell 2,Y.cell 3,Y.cell 4⟩;try go_frame)|(go_at_call 140;(with_reducible refine(br.out E _ (RepS.keeps (Keeps.below (D.out.trans (I.out.mono D.out.size)) (fun _ _ h=>h)) (fun b h hl=>⟨h,dX hl (D.out.trans (I.out.mono D.out.size)).size⟩) _ _ aW.out) (RepS.keeps (Keeps.refl _ _) (fun b h hl=>⟨dV aC.out h,hl⟩) _ _ bb.out)).mono ?_);rintro e w4 ⟨vp,rfl,aq,ag⟩;obtain⟨bQ,Ap,cp,rfl,_,⟨Kp,dp,rfl,_,_⟩,_,_⟩:=aq.open;have bq:=dM aq;have bw:=dM ag;have bk:=Blk.below Q ag Q.lt;have b8:=Blk.below aA ag aA.lt;clear aq ag)|(refine nn rfl none rfl _ (.tmp 13) _ rfl (W.heap.size+1) 0 [.int .i64 5,.int .i64 0,.string ⟨#[]⟩,.slice Ap P.2.length cp,.slice Kp P.1.length dp] rfl rfl _ _ bk (by simp) m8 (by intro v q;simp at q;rcases q with rfl|rfl|rfl|rfl|rfl<;>rfl) ?_;intro w5 aQ aM;rw[nr _ _ (by simp)]at aQ;have aX:=dM (ObjInv.put HI.out (D.out.trans ((I.out.mono D.out.size).trans (bw.out.mono (dV D.out.size I.out.size)))) (RepS.keeps (Keeps.refl _ _) (fun b h _=>h.elim (fun h=>h.1) (fun h=>dV aC.out (dV I.out.size h))) _ _ bq.out) aQ aM);clear aM;try go_frame)|(go_at_call 101;(with_reducible refine(bJ.out _).mono ?_);rintro e w' ⟨rfl,rfl⟩))
         go_roundw
         case rel=>exact⟨p,f,n,false,P.1,P.2,_,_,rfl,rfl,rfl,bT,by omega,n0,n1,by omega,bS,HR.out,aX.out⟩
         case measure=>simp[intOf];omega
       ·as_aux_lemma=>
         obtain⟨g3,g4⟩:=o8 a8
         have HR:Hid (nV (a_ s) val i left=(zeroJ,p,n,50)):=dM (aR.out.trans (dP ⟨aU,a8⟩))
         clear aU a8 aR
         go_wp2_with(first|(go_at_call 72;(with_reducible refine(bm.out _).mono ?_);rintro e w1 ⟨v,rfl,aa,aw⟩;obtain⟨vk,A,c9,rfl,_,⟨K,d9,rfl,_,_⟩,_,_⟩:=aa.open;obtain⟨x0,ap⟩: ∃a,a=x.kind:=⟨_,rfl⟩;obtain⟨x1,ao⟩: ∃a,a=x.n:=⟨_,rfl⟩;obtain⟨x2,am⟩: ∃a,a=x.s:=⟨_,rfl⟩;obtain⟨x3,ak⟩: ∃a,a=x.l.length:=⟨_,rfl⟩;obtain⟨x4,aj⟩: ∃a,a=x.k.length:=⟨_,rfl⟩;rw[←ap,←ao,←am,←ak,←aj]at aa⊢;have aV:=dM aa;have aY:=dM aw;clear aa ap ao am ak aj aw)|(refine nG rfl (some 21) rfl _ rfl _ sU ?_;intro Z w2 av aS au;have ay:=dM au;have ax:=dM av;clear au av;try go_frame)|(refine nn rfl none rfl _ (.tmp 21) _ rfl Z 0 [.int .i64 x0,.int .i64 x1,.string x2,.slice A x3 c9,.slice K x4 d9] rfl rfl _ _ aS (by simp[zeros5]) m8 (by intro v q;simp at q;rcases q with rfl|rfl|rfl|rfl|rfl<;>rfl) ?_;intro E Y ae;rw[nr _ _ (by simp[zeros5])]at Y;have I:=dM (yM aY.out ay.out ax.out ae);have bb:=dM (RepS.keeps (BS ay.out ax.out ae) (fun _ h _=>h) _ _ aV.out);clear ae;have bz:=dM (af.out.trans (I.out.mono af.out.size));have aA:=Blk.below ah I.out ah.lt;have Q:=Blk.below G I.out G.lt;obtain⟨b0,b1,b2,b3,b4⟩:E.cell? ⟨W.heap.size+1,0,none⟩=some (.int .i64 5)∧E.cell? ⟨W.heap.size+1,1,none⟩=some (.int .i64 0)∧E.cell? ⟨W.heap.size+1,2,none⟩=some (.string ⟨#[]⟩)∧E.cell? ⟨W.heap.size+1,3,none⟩=some (vL)∧E.cell? ⟨W.heap.size+1,4,none⟩=some (vK):=⟨Q.cell 0,Q.cell 1,Q.cell 2,Q.cell 3,Q.cell 4⟩;obtain⟨d0,d1,d2,d3,d4⟩:E.cell? ⟨Z,0,none⟩=some (.int .i64 x0)∧E.cell? ⟨Z,1,none⟩=some (.int .i64 x1)∧E.cell? ⟨Z,2,none⟩=some (.string x2)∧E.cell? ⟨Z,3,none⟩=some (.slice A x3 c9)∧E.cell? ⟨Z,4,none⟩=some (.slice K x4 d9):=⟨Y.cell 0,Y.cell 1,Y.cell 2,Y.cell 3,Y.cell 4⟩;try go_frame)|(go_at_call 140;(with_reducible refine(br.out E _ (RepS.keeps (Keeps.below (D.out.trans (I.out.mono D.out.size)) (fun _ _ h=>h)) (fun b h hl=>⟨h,dX hl (D.out.trans (I.out.mono D.out.size)).size⟩) _ _ aW.out) (RepS.keeps (Keeps.refl _ _) (fun b h hl=>⟨dV aC.out h,hl⟩) _ _ bb.out)).mono ?_);rintro e w4 ⟨vp,rfl,aq,ag⟩;obtain⟨bQ,Ap,cp,rfl,_,⟨Kp,dp,rfl,_,_⟩,_,_⟩:=aq.open;have bq:=dM aq;have bw:=dM ag;have bk:=Blk.below Q ag Q.lt;have b8:=Blk.below aA ag aA.lt;clear aq ag)|(refine nn rfl none rfl _ (.tmp 13) _ rfl (W.heap.size+1) 0 [.int .i64 5,.int .i64 0,.string ⟨#[]⟩,.slice Ap P.2.length cp,.slice Kp P.1.length dp] rfl rfl _ _ bk (by simp) m8 (by intro v q;simp at q;rcases q with rfl|rfl|rfl|rfl|rfl<;>rfl) ?_;intro w5 aQ aM;rw[nr _ _ (by simp)]at aQ;have aX:=dM (ObjInv.put HI.out (D.out.trans ((I.out.mono D.out.size).trans (bw.out.mono (dV D.out.size I.out.size)))) (RepS.keeps (Keeps.refl _ _) (fun b h _=>h.elim (fun h=>h.1) (fun h=>dV aC.out (dV I.out.size h))) _ _ bq.out) aQ aM);clear aM;try go_frame)|(go_at_call 101;(with_reducible refine(bJ.out _).mono ?_);rintro e w' ⟨rfl,rfl⟩)|(refine nn rfl none rfl _ (.tmp 8) _ rfl W.heap.size 0 [.int .i64 0,.int .i64 0,.string ⟨#[]⟩,.slice none 0 0,.slice none 0 0] rfl rfl _ _ aX.out.1 (by simp[zeros5]) m8 (by intro v q;simp at q;rcases q with rfl|rfl|rfl|rfl|rfl<;>rfl) ?_;intro w9 ab U;rw[nr _ _ (by simp[zeros5])]at ab;have az:=dM (fq aX.out.2.2.2.1 U (eV aX.out.2.2.2.1) (by intro k hk;injection hk with hk;omega));have bt:=dM U;clear U;try go_frame))
         refine dW (v:= .tuple #[.agg #[.int .i64 0,.int .i64 0,.string ⟨#[]⟩,.slice none 0 0,.slice none 0 0],.int .i64 (p:Int),.int .i64 n,.int .i64 50]) (pN gB _ _ W.heap.size _ [.int .i64 0,.int .i64 0,.string ⟨#[]⟩,.slice none 0 0,.slice none 0 0] _ rfl ab ed rfl m8) rfl ?_
         rw[HR.out]
         exact⟨_,rfl,RepS.zero _ _,az.out⟩
     ·as_aux_lemma=>
       have HR:Hid (nV (a_ s) val i left=(zeroJ,p,n,ev)):=dM (bH.out.trans (dP he))
       obtain⟨v1,v2⟩:=o8 he
       clear he bC bH
       go_wp2_with(first|(go_at_call 72;(with_reducible refine(bm.out _).mono ?_);rintro e w1 ⟨v,rfl,aa,aw⟩;obtain⟨vk,A,c9,rfl,_,⟨K,d9,rfl,_,_⟩,_,_⟩:=aa.open;obtain⟨x0,ap⟩: ∃a,a=x.kind:=⟨_,rfl⟩;obtain⟨x1,ao⟩: ∃a,a=x.n:=⟨_,rfl⟩;obtain⟨x2,am⟩: ∃a,a=x.s:=⟨_,rfl⟩;obtain⟨x3,ak⟩: ∃a,a=x.l.length:=⟨_,rfl⟩;obtain⟨x4,aj⟩: ∃a,a=x.k.length:=⟨_,rfl⟩;rw[←ap,←ao,←am,←ak,←aj]at aa⊢;have aV:=dM aa;have aY:=dM aw;clear aa ap ao am ak aj aw)|(refine nG rfl (some 21) rfl _ rfl _ sU ?_;intro Z w2 av aS au;have ay:=dM au;have ax:=dM av;clear au av;try go_frame)|(refine nn rfl none rfl _ (.tmp 21) _ rfl Z 0 [.int .i64 x0,.int .i64 x1,.string x2,.slice A x3 c9,.slice K x4 d9] rfl rfl _ _ aS (by simp[zeros5]) m8 (by intro v q;simp at q;rcases q with rfl|rfl|rfl|rfl|rfl<;>rfl) ?_;intro E Y ae;rw[nr _ _ (by simp[zeros5])]at Y;have I:=dM (yM aY.out ay.out ax.out ae);have bb:=dM (RepS.keeps (BS ay.out ax.out ae) (fun _ h _=>h) _ _ aV.out);clear ae;have bz:=dM (af.out.trans (I.out.mono af.out.size));have aA:=Blk.below ah I.out ah.lt;have Q:=Blk.below G I.out G.lt;try go_frame)|(refine nn rfl none rfl _ (.tmp 8) _ rfl W.heap.size 0 [.int .i64 0,.int .i64 0,.string ⟨#[]⟩,.slice none 0 0,.slice none 0 0] rfl rfl _ _ aA (by simp[zeros5]) m8 (by intro v q;simp at q;rcases q with rfl|rfl|rfl|rfl|rfl<;>rfl) ?_;intro w9 ab U;rw[nr _ _ (by simp[zeros5])]at ab;have az:=dM (fq bz.out U (eV bz.out) (by intro k hk;injection hk with hk;omega));have bt:=dM U;clear U;try go_frame))
       refine dW (v:= .tuple #[.agg #[.int .i64 0,.int .i64 0,.string ⟨#[]⟩,.slice none 0 0,.slice none 0 0],.int .i64 (p:Int),.int .i64 n,.int .i64 ev]) (pN gB _ _ W.heap.size _ [.int .i64 0,.int .i64 0,.string ⟨#[]⟩,.slice none 0 0,.slice none 0 0] _ rfl ab ed rfl m8) rfl ?_
       rw[HR.out]
       exact⟨_,rfl,RepS.zero _ _,az.out⟩
theorem qL (s:ByteArray) (q:s.size≤5000): ∀(d:Nat),d≤8→ ∀(i:Nat) (left:Int) (W:World),i≤s.size→0≤left→left≤256→
  Calls prog 72 #[.string s,.int .i64 (i:Int),.int .i64 (9-(d:Int)),.int .i64 left] W (sV W (nj (a_ s) d i left))
 |0,_,i,left,W,hi,h0,h1=>by
  rw[nj]
  exact MU s q 9 (fun i left=>(zeroJ,i,left,51)) i left hi h0 h1 W (fun _=>rfl) (fun _ h=>absurd (by decide) h)
 |d+1,hd,i,left,W,hi,h0,h1=>by
  rw[nj]
  have D:ValOk s (8-(d:Int)) (nj (a_ s) d):=⟨fun i left W hi h0 h1=>by
    have:=qL s q d (by omega) i left W hi h0 h1
    rwa [show(9:Int)-(d:Int)=8-(d:Int)+1 by omega]at this,fun i left hi h0 h1 F=>by
    have:=BI (a_ s) d i left (by rw[j_];exact hi) F
    rw[j_]at this
    exact⟨this.1,this.2.1,this.2.2.1,by omega⟩⟩
  have:=MU s q (8-(d:Int)) (nV (a_ s) (nj (a_ s) d)) i left hi h0 h1 W (fun h=>absurd h (by omega)) (fun B I E G W=>by
   rcases B with B|B
   ·exact sb s q (8-(d:Int)) (by omega) (by omega) (nj (a_ s) d) D i (left-1) E (by omega) (by omega) W B
   ·exact uc s q (8-(d:Int)) (by omega) (by omega) (nj (a_ s) d) D i (left-1) E (by omega) (by omega) W B)
  rwa [show(9:Int)-((d+1:Nat):Int)=8-(d:Int)by omega]
theorem r_ (s:ByteArray) (W:World) (q:s.size≤9223372036854775807):Calls prog 41 #[.string s] W (LW W (zJ (a_ s))):=
 ua s W q fun h W=>by
  have:=qL s (by omega) 8 (dQ _) (d_ (a_ s) 0) 256 W (by have:=(oS (l:=a_ s) (i:=0) (eN _)).2;rwa [j_]at this) (by decide) (by decide)
  exact this
end Go.Proofs.YtceddodfddlncaaGreatDoor
