
import Derived.LaidEql
import Derived.Stop.Asserts
import Derived.RowKitTokens
import Derived.Test.YtceddodfddlncaaGreatDoorJv16
set_option maxRecDepth 100000
set_option maxHeartbeats 16000000
set_option linter.all false
namespace Go.Proofs.YtceddodfddlncaaGreatDoor
open Go Go.RowKit Tryz
mutual
def qq:J→List Int
 | .mk kind n s l k=>
  if kind=0 then[110,117,108,108]else if kind=1 then(if n=0 then[102,97,108,115,101]else[116,114,117,101])else if kind=2 then LK n else if kind=3 then pX (a_ s)
  else if kind=4 then[91]++tf false true l k++[93]else if kind=5 then[123]++tf true true l k++[125]else[]
def tf:Bool→Bool→List J→List ByteArray→List Int
 |_,_,[],_=>[]
 |o,f,x::r,k=>(if f=true then[]else[44])++((if o=true then pX (a_ (k.headD ⟨#[]⟩))++[58]else[])++(qq x++tf o false r k.tail))
end
def FT (W0 w:World) (wb:Nat) (acc t:List Int) (e:Ending) (w':World):Prop:= ∃acc',Wr acc t acc'∧sS W0 w wb acc' e w'
def DK (j:J):Prop:= ∀(W0 w:World) (wb:Nat) (acc:List Int) (v vj:Value),WSt W0 w wb acc v→RepJ W0 j vj→acc.length+(qq j).length≤10000000000000→
 Calls prog 113 #[.pointer (some ⟨wb,0,none⟩),vj] w (FT W0 w wb acc (qq j))
theorem uP (o:Bool) (l:List J) (k:List ByteArray) (i:Nat) (hi:i<l.length) (f:Bool):tf o f (l.drop i) (k.drop i)=(if f=true then[]else[44])++((if o=true then pX (a_ ((k.drop i).headD ⟨#[]⟩))++[58]else[])++(qq l[i]++tf o false (l.drop (i+1)) (k.drop (i+1)))):=by
 rw[eD hi,tf,List.tail_drop]
theorem xR (kind n:Int) (s:ByteArray) (l:List J) (k:List ByteArray) (ih: ∀x∈l,DK x) (cb:kind=4∨kind=5) (ak:kind=5→k.length=l.length) (aZ: ∀t∈k,t.size≤1000000000) (M cl:ByteArray) (W0 w:World) (D:Nat) (V:List Int) (v:Value) (vj:Value) (aV:M.size=1) (bf:cl.size=1)
  (F:WSt W0 w D V v) (hj:RepJ W0 (.mk kind n s l k) vj) (aY:V.length+(a_ M++tf (decide (kind=5)) true l k++a_ cl).length≤10000000000000):
  Calls prog 150 #[.pointer (some ⟨D,0,none⟩),.string M,vj,.string cl] w (FT W0 w D V (a_ M++tf (decide (kind=5)) true l k++a_ cl)):=by
 obtain⟨vk,A,c,rfl,_,a7,hl,hc⟩:=hj.open
 obtain⟨K,dd,rfl,aE,a8⟩:=a7.open
 change Calls _ _ #[_,_,.agg #[.int .i64 kind,.int .i64 n,.string s,.slice A l.length c,.slice K k.length dd],_] _ _
 have HC:=dM hc
 have bX:=dM a8
 have b6:=dM ih
 have bZ:=dM ak
 have bS:=dM aZ
 obtain⟨p,hp⟩:=yaa l.length
 obtain⟨q,hq⟩:=yaa k.length
 have HP:=dM hp
 have HQ:=dM hq
 replace hl:l.length≤9223372036854775807:=hl
 replace aE:k.length≤9223372036854775807:=aE
 rw[←hp]at hl⊢
 rw[←hq]at aE⊢
 obtain⟨B,hB⟩:=yaa w.heap.size
 obtain⟨w1,ap⟩: ∃z,z=w.alloc (.cells #[.int .i64 kind,.int .i64 n,.string s,.slice A p c,.slice K q dd] 63):=⟨_,rfl⟩
 have G:w.grownBy w1 none:=by rw[ap];exact dO _ _ none
 have bj:Blk w1 B 63 [.int .i64 kind,.int .i64 n,.string s,.slice A p c,.slice K q dd]:=by rw[ap,hB];exact F0 w _ _
 have bF:=dM bj
 have b2:=dM (KeepJ.grownN G)
 have aX:=aY
 rw[dS,dS,j_,j_,aV,bf]at aX
 have bQ:=dM (Ha W0 w1 D V v M (F.moved G) (by omega))
 have bJ:=dM ap
 have HB:=dM hB
 obtain⟨IT,aK⟩: ∃z,z=tf (decide (kind=5)) true l k:=⟨_,rfl⟩
 have b5:=dM aK
 rw[←aK]at aX⊢
 clear F hj a7 hc a8 ih ak aZ hp hq hB ap G bj aY aK
 go_enter func150,ntmps150
 go_wp2_with fail
 rw[show w.alloc (.cells #[.int .i64 kind,.int .i64 n,.string s,.slice A p c,.slice K q dd] 63)=w1 from bJ.out.symm,show w.heap.size=B from HB.out.symm]
 refine bQ.out.mono ?_
 rintro e w2 ⟨rfl,aO,aF⟩
 have bI:=dM aO
 have b1:=dM (b2.out.trans aF)
 have aI:=aF.2 _ _ bF.out
 have c3:w2.cell? ⟨B,3,none⟩=some (.slice A p c):=aI.cell 3
 have bE:=dM aI
 clear aO aF aI
 go_wp2_with fail
 go_loopw[16] (fun u wr=> ∃(i:Nat) (U ti:List Int) (vi:Value),i≤p∧u= .int .i64 (i:Int)∧Wr V ti U∧Hid (ti++tf (decide (kind=5)) (decide (i=0)) (l.drop i) (k.drop i)=a_ M++IT)∧WSt W0 wr D U vi∧Blk wr B 63 [.int .i64 kind,.int .i64 n,.string s,.slice A p c,.slice K q dd]∧KeepJ w wr) (fun u _=>p-(intOf u).toNat)
 case atStart=>
  obtain⟨L,h2⟩:=bI.out
  exact⟨0,_,a_ M,L,eN _,rfl,.inl rfl,dM (by rw[b5.out];rfl),h2,bE.out,b1.out⟩
 case round=>
  obtain⟨i,U,ti,vi,hi,rfl,ah,aN,aj,hX,aw⟩:=hrel
  have ci:=ah.len
  have bs:=eH List.length aN.out
  rw[dS,dS,j_,aV]at bs
  by_cases bt:i<p
  ·have aa:i<l.length:=by rw[←HP.out];exact bt
   obtain⟨g,o,rfl,hg,aT⟩:=HC.out (fun e=>by replace e:l=[]:=e;rw[e]at aa;exact absurd aa (gU _))
   obtain⟨v1,R,bc⟩:=aT.at i aa
   obtain⟨A1,x3,c1,K1,Z,e1,rfl,z0,z1,z2,z3,z4⟩:=R.cells bc
   have ab:=aj.bel
   have ag:=(ab.cell (p:=⟨g,o+i*5,none⟩) hg).trans z0
   have af:=(ab.cell (p:=⟨g,o+i*5+1,none⟩) hg).trans z1
   have ae:=(ab.cell (p:=⟨g,o+i*5+2,none⟩) hg).trans z2
   have bq:=(ab.cell (p:=⟨g,o+i*5+3,none⟩) hg).trans z3
   have bp:=(ab.cell (p:=⟨g,o+i*5+4,none⟩) hg).trans z4
   have aG:=uP (decide (kind=5)) l k i aa (decide (i=0))
   have aJ:=b6.out l[i] (fe aa)
   replace R:RepJ W0 l[i] (.agg #[.int .i64 l[i].kind,.int .i64 l[i].n,.string l[i].s,.slice A1 x3 c1,.slice K1 Z e1]):=R
   replace ag:wr.cell? ⟨g,o+i*5,none⟩=some (.int .i64 l[i].kind):=ag
   replace af:wr.cell? ⟨g,o+i*5+1,none⟩=some (.int .i64 l[i].n):=af
   replace ae:wr.cell? ⟨g,o+i*5+2,none⟩=some (.string l[i].s):=ae
   obtain⟨X,bk⟩:=yaa (l[i])
   rw[←bk]at aG aJ R ag af ae
   obtain⟨x0,aA⟩: ∃x,x=X.kind:=⟨_,rfl⟩
   obtain⟨x1,az⟩: ∃x,x=X.n:=⟨_,rfl⟩
   obtain⟨x2,ay⟩: ∃x,x=X.s:=⟨_,rfl⟩
   rw[←aA,←az,←ay]at R
   rw[←aA]at ag
   rw[←az]at af
   rw[←ay]at ae
   have G:=dO wr (.cells #[.int .i64 x0,.int .i64 x1,.string x2,.slice A1 x3 c1,.slice K1 Z e1] 63) none
   obtain⟨w3,ao⟩: ∃z,z=wr.alloc (.cells #[.int .i64 x0,.int .i64 x1,.string x2,.slice A1 x3 c1,.slice K1 Z e1] 63):=⟨_,rfl⟩
   rw[←ao]at G
   have aH:Blk w3 wr.heap.size 63 [.int .i64 x0,.int .i64 x1,.string x2,.slice A1 x3 c1,.slice K1 Z e1]:=by rw[ao];exact F0 wr _ _
   obtain⟨Y,hY⟩:=yaa wr.heap.size
   rw[←hY]at aH
   have bA:=dM aH
   have bD:=dM (hX.grownN G)
   have aM:=dM (aj.moved G)
   have bV:=dM (aw.trans (KeepJ.grownN G))
   have bM:=dM R
   have b3:=dM aJ
   have bo:=dM aG
   have bH:=dM ao
   have HY:=dM hY
   have ax:=dM ah
   have cf:(0:Int)≤(i:Int):=by omega
   have ce:(i:Int)<(p:Int):=by omega
   have bl:kind=5→ ∃b o2 t,K=some ⟨b,o2,none⟩∧(∀W',Below W0.heap.size W0 W'→W'.cell? ⟨b,o2+i,none⟩=some (.string t))∧(k.drop i).headD ⟨#[]⟩=t∧t.size≤1000000000∧i<q:=fun I=>by
    have au:i<k.length:=by rw[bZ.out I];exact aa
    obtain⟨b,o2,e',bx,_,bw⟩:=bX.out i au
    exact⟨b,o2,k[i],e',fun W' hW=>(hW.cell (p:=⟨b,o2+i,none⟩) bx).trans bw,by rw[eD au];rfl,bS.out _ (fe au),by rw[HQ.out];exact au⟩
   have bR:=dM bl
   clear aj hX aw aT bc z0 z1 z2 z3 z4 ab aG aJ bk aA az ay G ao aH R hY ah bl
   go_upto_if 22 with fail
   rw[show wr.alloc (.cells #[.int .i64 x0,.int .i64 x1,.string x2,.slice A1 x3 c1,.slice K1 Z e1] 63)=w3 from bH.out.symm,show wr.heap.size=Y from HY.out.symm]
   clear ag af ae bq bp
   have bd:=eH List.length bo.out
   simp only[dS]at bd
   have cg:=aM.out.blk.lt
   go_cut[]from 17 to 40 (fun wx=> ∃(a2:List Int) (L:Value),Wr V (ti++(if decide (i=0)=true then[]else[44])) a2∧WSt W0 wx D a2 L∧KeepJ w3 wx)
   case first=>
    by_cases h0:i=0
    ·have hz: ¬(0:Int)<(i:Int):=by omega
     have E:(if decide (i=0)=true then[]else[44]:List Int)=[]:=by rw[ec h0];rfl
     have W:=dM E
     clear h0 E
     go_wp2_with fail
     go_meet
     case rel=>exact⟨U,vi,by rw[W.out,fM];exact ax.out,aM.out,KeepJ.refl _⟩
    ·have hz:(0:Int)<(i:Int):=by omega
     have E:(if decide (i=0)=true then[]else[44]:List Int)=[44]:=by rw[dT h0];rfl
     have W:=dM E
     have am:=dM (Ha W0 w3 D U vi ⟨#[44]⟩ aM.out (by show U.length+1≤_;omega))
     clear h0 E
     go_wp2_with(go_at_call 146;(with_reducible refine am.out.mono ?_);rintro e_ w' ⟨rfl,F,N⟩;have O:=dM (And.intro F N);clear F N)
     go_meet
     case rel=>
      obtain⟨L,h2⟩:=O.out.1
      exact⟨_,L,by rw[W.out];exact ax.out.trans (.inl rfl),h2,O.out.2⟩
   case rest=>
    obtain⟨a2,L,aC,aQ,ar⟩:=hcut
    rename World=>w4
    have av:=ar.2 _ _ bD.out
    have bh:=ar.2 _ _ bA.out
    have b0:w4.cell? ⟨B,0,none⟩=some (.int .i64 kind):=av.cell 0
    have b4:w4.cell? ⟨B,4,none⟩=some (.slice K q dd):=av.cell 4
    have bC:=dM av
    have bz:=dM bh
    have bm:=dM aC
    have aL:=dM aQ
    have bU:=dM (bV.out.trans ar)
    have bv:=aC.len
    simp only[dS]at bv
    clear av bh aC aQ ar
    go_upto_if 27 with fail
    go_cut[]from 17 to 40 (fun wx=> ∃(a3:List Int) (v3:Value),Wr V ((ti++(if decide (i=0)=true then[]else[44]))++(if decide (kind=5)=true then pX (a_ ((k.drop i).headD ⟨#[]⟩))++[58]else[])) a3∧WSt W0 wx D a3 v3∧KeepJ w4 wx)
    case first=>
     by_cases I:kind=5
     ·obtain⟨b,o2,t,rfl,bg,bb,br,cd⟩:=bR.out I
      have E:(if decide (kind=5)=true then pX (a_ ((k.drop i).headD ⟨#[]⟩))++[58]else[]:List Int)=pX (a_ t)++[58]:=by rw[ec I,bb];rfl
      have W:=dM E
      rw[E,dS]at bd
      have hz:(kind==5)=true:=by rw[gm];exact I
      have ch:=bg w4 aL.out.bel
      have bN:=dM (MP W0 w4 D a2 L t aL.out br (by omega))
      have cc:(i:Int)<(q:Int):=by omega
      have am:=dM (fun(W':World) (a:List Int) (v':Value) (h:WSt W0 W' D a v') (ha:a.length≤20000000000000)=>Ha W0 W' D a v' ⟨#[58]⟩ h (by show a.length+1≤_;omega))
      clear I E bg bb
      go_wp2_with(first
       |(go_at_call 149;(with_reducible refine bN.out.mono ?_);rintro e_ Q ⟨a5,aD,rfl,⟨v5,aS⟩,ak⟩;have bP:=dM aD;have bL:=dM aS;have bY:=dM ak;have ca:=aD.len;clear aD aS ak)
       |(go_at_call 146;(with_reducible refine(am.out _ _ _ bL.out (by omega)).mono ?_);rintro e_ w6 ⟨rfl,F,N⟩;have O:=dM (And.intro F N);clear F N))
      go_meet
      case rel=>
       obtain⟨v6,h6⟩:=O.out.1
       exact⟨_,v6,by rw[W.out];exact bm.out.trans (bP.out.trans (.inl rfl)),h6,bY.out.trans O.out.2⟩
     ·have E:(if decide (kind=5)=true then pX (a_ ((k.drop i).headD ⟨#[]⟩))++[58]else[]:List Int)=[]:=by rw[dT I];rfl
      have W:=dM E
      have hz:(kind==5)=false:=by rw[dY];exact I
      clear I E
      go_wp2_with fail
      go_meet
      case rel=>exact⟨a2,L,by rw[W.out,fM];exact bm.out,aL.out,KeepJ.refl _⟩
    case rest=>
     obtain⟨a3,v3,aB,aP,aq⟩:=hcut
     rename World=>Q
     have bi:=aq.2 _ _ bC.out
     have ad:=aq.2 _ _ bz.out
     have bu:=aB.len
     simp only[dS]at bu
     have b8:=dM (b3.out W0 Q D a3 v3 _ aP bM.out (by omega))
     have y0:Q.cell? ⟨Y,0,none⟩=some (.int .i64 x0):=ad.cell 0
     have y1:Q.cell? ⟨Y,1,none⟩=some (.int .i64 x1):=ad.cell 1
     have y2:Q.cell? ⟨Y,2,none⟩=some (.string x2):=ad.cell 2
     have y3:Q.cell? ⟨Y,3,none⟩=some (.slice A1 x3 c1):=ad.cell 3
     have y4:Q.cell? ⟨Y,4,none⟩=some (.slice K1 Z e1):=ad.cell 4
     have bB:=dM bi
     have bG:=dM aB
     have bT:=dM (bU.out.trans aq)
     clear bi ad aB aP aq b0 b4
     go_wp2_with(go_at_call 113;(with_reducible refine b8.out.mono ?_);rintro e_ w6 ⟨a6,aU,rfl,aR,ba⟩;have bO:=dM aU;have bK:=dM aR;have bn:=dM ba;clear aU aR ba)
     go_roundw
     case rel=>
      obtain⟨v6,h6⟩:=bK.out
      refine⟨i+1,a6,_,v6,by omega,by go_num,bG.out.trans bO.out,dM ?_,h6,bn.out.2 _ _ bB.out,bT.out.trans bn.out⟩
      rw[←aN.out,bo.out,dT (show ¬i+1=0 by omega)]
      simp only[fw]
     case measure=>simp[intOf];omega
  ·obtain rfl:i=p:=by omega
   have b9: ¬(i:Int)<(i:Int):=by omega
   have aW:tf (decide (kind=5)) (decide (i=0)) (l.drop i) (k.drop i)=[]:=by rw[fB (by rw[←HP.out];exact dQ _),tf]
   have b7:Hid (ti=a_ M++IT):=dM (by rw[←aN.out,aW,fM])
   have am:=dM (Ha W0 wr D U vi cl aj (by rw[bf];omega))
   have ax:=dM ah
   have bW:=dM aw
   clear aj hX aw ah aW
   go_wp2_with(go_at_call 146;(with_reducible refine am.out.mono ?_);rintro e_ w6 ⟨rfl,F,N⟩;have O:=dM (And.intro F N);clear F N)
   go_end0
   exact⟨_,by rw[←b7.out];exact ax.out.trans (.inl rfl),rfl,O.out.1,bW.out.trans O.out.2⟩
end Go.Proofs.YtceddodfddlncaaGreatDoor
