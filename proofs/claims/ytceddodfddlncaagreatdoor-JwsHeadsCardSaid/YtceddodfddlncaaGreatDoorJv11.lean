
import Derived.Lib.SplitLaws
import Derived.Test.YtceddodfddlncaaGreatDoorJv06
import Derived.Test.YtceddodfddlncaaGreatDoorJv07
import Derived.Test.YtceddodfddlncaaGreatDoorJv10
set_option maxRecDepth 100000
set_option maxHeartbeats 16000000
set_option linter.all false
namespace Go.Proofs.YtceddodfddlncaaGreatDoor
open Go Go.RowKit Tryz
def fS:=@cell_one_new
def gM:=@List.cons.injEq
def gX:=@Value.agg.injEq
def ie:=@Array.mk.injEq
def iN:=@World.ownsRow_lit
def jm:=@Lib.cell_of_heap
def jp:=@and_true
def j6:=@World.cell?_alloc_new
def lO:=@ntmps67
def mf:=@func67
def LiesT (w:World) (b o:Nat) (ts:List ByteArray):Prop:= ∀i t,ts[i]? =some t→w.cell? ⟨b,o+i,none⟩=some (.string t)
theorem En (l:List UInt8):a_ ⟨l.toArray⟩=l.map fun b=>(b.toNat:Int):=by simp[a_]
theorem sp (a b:ByteArray):a_ ⟨(Lib.join ([a,b].map (·.data.toList)) [46]).toArray⟩=a_ a++46::a_ b:=by
 rw[En]
 simp only[gZ,mD,Lib.join_cons,Lib.joinTail]
 simp[a_]
theorem KN (a b:ByteArray) (D o c:Nat) (w:World) (L:LiesT w D o [a,b]) (B:D<w.heap.size) (N:2≤c) (M:a.size+b.size≤100000000):
  Calls prog 50 #[.slice (some ⟨D,o,none⟩) 2 c] w fun e w'=> ∃t,a_ t=a_ a++46::a_ b∧e= .returned (.string t)∧Below w.heap.size w w':=by
 have F:=sp a b
 have I:(Lib.join ([a,b].map (·.data.toList)) (⟨#[46]⟩:ByteArray).data.toList).length≤140737488355328:=by
  have:=eH List.length F
  rw[j_,dS,eu,j_,j_]at this
  have e:(⟨(Lib.join ([a,b].map (·.data.toList)) [46]).toArray⟩:ByteArray).size=(Lib.join ([a,b].map (·.data.toList)) [46]).length:=by simp[ByteArray.size]
  show(Lib.join _ [46]).length≤_
  omega
 have G:=Lib.hid (Tryz.strings_Join D o c [a,b] ⟨#[46]⟩ w L B (by show 2≤_;omega) N I)
 obtain⟨t,E⟩: ∃t:ByteArray,t=⟨(Lib.join ([a,b].map (·.data.toList)) [46]).toArray⟩:=⟨_,rfl⟩
 have O:Hid (a_ t=a_ a++46::a_ b):=Lib.hid (by rw[E,F])
 replace G:Hid (Calls prog 77 #[.slice (some ⟨D,o,none⟩) 2 c,.string ⟨#[46]⟩] w fun e w'=>e= .returned (.string t)∧Below w.heap.size w w'):=Lib.hid (by
  refine G.out.mono ?_
  rintro e w' ⟨rfl,B⟩
  exact⟨by rw[E],B⟩)
 clear L B M F I E
 go_enter func50,ntmps50
 go_wp2_with fail
 refine G.out.mono ?_
 rintro e R ⟨rfl,B⟩
 have Q:=Lib.hid B
 clear B
 go_wp2
 go_ret
 exact⟨_,O.out,rfl,Q.out⟩
theorem w_ (s:ByteArray) (w:World) (h:s.size≤281474976710656):Calls prog 38 #[.string s] w fun e w'=>e= .returned (.string s)∧Below w.heap.size w w':=by
 have HC:=dM (Tryz.stringslite_Clone s w h)
 go_enter func38,ntmps38
 go_wp2_with fail
 refine HC.out.mono ?_
 rintro e D ⟨rfl,q⟩
 have B:=dM q
 clear q
 go_wp2
 go_ret
 exact⟨rfl,B.out⟩
def MaxLW (w:World):Prop:= ∃m:Int,w.cell? ⟨1,0,none⟩=some (.int .i64 m)
theorem MaxLW.below {w w':World} (h:MaxLW w) (B:Below w.heap.size w w'):MaxLW w':=by
 obtain⟨m,q⟩:=h
 exact⟨m,(B.cell (nc q)).trans q⟩
theorem wO (s:ByteArray) (w:World) (D:MaxLW w) (E:s.size≤1000000):
  Calls prog 62 #[.string s,.string ⟨#[46]⟩] w fun e w'=> ∃q:List ByteArray,q.map a_=px (a_ s)∧e= .returned (.slice (some ⟨w.heap.size,0,none⟩) q.length q.length)∧LiesT w' w.heap.size 0 q∧w.heap.size<w'.heap.size∧Below w.heap.size w w':=by
 obtain⟨m,B⟩:=D
 refine(Tryz.strings_Split s ⟨#[46]⟩ m w (by omega) B (by decide)).mono ?_
 rintro e w' ⟨rfl,rfl⟩
 refine⟨Lib.splitB ⟨#[46]⟩ 0 (Lib.countB s ⟨#[46]⟩) s,wN s ⟨#[46]⟩ rfl,?_,fun i t hi=> ?_,by simp,nO _ _⟩
 ·rw[Lib.splitB_all _ (by decide) 0 _ s rfl]
 ·rw[eL,j6]
  simp[hi]
theorem JE {l:List Int} (h:Bytes l):a_ ⟨(pS l).toArray⟩=l:=by
 simp only[a_,pS,jV]
 conv=>rhs;rw[←List.map_id l]
 refine jF fun x q=> ?_
 exact Jt (h.mem q)
theorem N1 {l:List Int} (h:Bytes l):Lib.byteCells (pS l)=c_ .u8 l:=by
 simp only[Lib.byteCells,pS,jV,c_]
 refine jF fun x q=> ?_
 simp only[Function.comp]
 rw[Jt (h.mem q)]
theorem EF:(prog.info? 120).map (·.size)=some 2:=by kernel_rfl
theorem N3 (b:Nat) (w:World) (h0:w.cell? ⟨b,0,none⟩=some (.pointer (some ⟨b,0,none⟩))):
  Calls prog 110 #[.pointer (some ⟨b,0,none⟩)] w fun e w'=>e= .returned (.tuple #[])∧w=w':=by
 obtain⟨j,q,_⟩:=ik.1 EF
 have B:=Lib.run_neq_ptr_same (P:=prog) w ⟨b,0,none⟩ iT q
 go_enter func110,ntmps110
 go_wp2
 go_end0
 exact⟨rfl,rfl⟩
abbrev FU (B b:Nat) (bs:List Value) (w:World):Prop:=Lib.BuilderAt 120 5 B b (.pointer (some ⟨b,0,none⟩)) bs w
theorem qC (B b:Nat) (q:List Value) (Q:Addr) (n c:Nat) (xs:List Int) (w:World) (h:FU B b q w) (X:xs.length=n) (ag:q.length+n≤1073741824) (Z:B≤w.heap.size)
  (Y: ∀(j:Nat) (u:Value),(c_ .u8 xs)[j]? =some u→w.cell? (Q.add j)=some u):
  Calls prog 81 #[.pointer (some ⟨b,0,none⟩),.slice (some Q) n c] w fun e w'=>e= .returned (.tuple #[.int .i64 (n:Int),.nilIface])∧FU B b (q++c_ .u8 xs) w'∧Below B w w':=by
 obtain⟨i0,ah,ae,ab,aa⟩:=gw su
 have aj:=dM Y
 have HN:=dM X
 have H:=dM h
 obtain⟨hB,v,E,V,W⟩:=h
 have c0:w.cell? ⟨b,0,none⟩=some (.pointer (some ⟨b,0,none⟩)):=by rw[jm E];rfl
 have c1:w.cell? ⟨b,1,none⟩=some v:=by rw[jm E];rfl
 have R:=dM V
 have am:=dM E
 have ai:=dM W
 have ak:=dM (N3 b w c0)
 obtain⟨m,M⟩:=yaa q.length
 rw[←M]at R ag
 have HM:=dM M
 clear M Y X V E W c0
 go_enter func81,ntmps81
 go_wp2_with(first
  |(go_at_call 110;refine ak.out.mono ?_;rintro e w' ⟨rfl,rfl⟩)
  |(at_builtin;refine fm _ rfl (.tmp 12) (.tmp 13) 46 rfl B 5 i0 (.int .u8 0) 1 1 ee ah ae ab aa rfl (by decide) v m q rfl R.out Q n c (c_ .u8 xs) rfl ?c1 aj.out (oW _ _) ?c3 ?c4 Z ?_))
 case c1=>rw[b_,HN.out,kL]
 case c3=>unfold maxLen;omega
 case c4=>omega
 intro G D L N _
 have af:b<w.heap.size:=Lib.BuilderAt.lt H.out
 have F:D.heap[b]? =some (.cells #[.pointer (some ⟨b,0,none⟩),v] 120 (0,0)):=by
  rw[N.block b af (fun e=>ai.out e.symm)]
  exact am.out
 have d1:D.cell? ⟨b,1,none⟩=some v:=by rw[jm F];rfl
 have f1:D.frozen? ⟨b,1,none⟩=false:=Lib.frozen_of_heap F 1
 have HR:Hid (FU B b (q++c_ .u8 xs) (D.setCell ⟨b,1,none⟩ G)∧Below B w (D.setCell ⟨b,1,none⟩ G)):=dM ⟨
  Lib.BuilderAt.put hB F (bs':=q++c_ .u8 xs) (by rw[dS,b_,HN.out,←HM.out];exact L) (by decide),
  ((dU B w).grown N Z (rF R.out)).setCell (p:=⟨b,1,none⟩) hB _⟩
 obtain⟨ao,U,O,rfl⟩: ∃ao U O,G= .slice ao U O:=by
  rcases L.2 with⟨I,_⟩|⟨g,O,ap,I,_⟩
  ·exact⟨_,_,_,I⟩
  ·exact⟨_,_,_,I⟩
 clear L N F
 go_wp2
 go_ret2
 exact⟨rfl,HR.out.1,HR.out.2⟩
theorem rv {B b:Nat} {D:List Value} {w w':World} (h:FU B b D w) (q:Below w.heap.size w w'):FU B b D w':=by
 have G:=Lib.BuilderAt.lt h
 obtain⟨L,v,I,E,F⟩:=h
 exact⟨L,v,(q.block b G).trans I,E.kept (row:=none) (od q none) (kn _),F⟩
theorem qH: ∀(xs:List Int),xs.length≤3→Bytes xs→(BM (sY xs)).take ((8*xs.length+5)/6)=l_ xs
 |[],_,_=>rfl
 |[a],_,h=>by
  have q:=h.mem (x:=a) (by simp)
  simp only[sY,BM,l_,eu,fO]
  rw[show a*65536/262144%64=a/4 by omega,show a*65536/4096%64=a%4*16 by omega]
  rfl
 |[a,b],_,h=>by
  have q:=h.mem (x:=a) (by simp)
  have B:=h.mem (x:=b) (by simp)
  simp only[sY,BM,l_,eu,fO]
  rw[show(a*65536+b*256)/262144%64=a/4 by omega,show(a*65536+b*256)/4096%64=a%4*16+b/16 by omega,show(a*65536+b*256)/64%64=b%16*4 by omega]
  rfl
 |[a,b,c],_,h=>by
  have q:=h.mem (x:=a) (by simp)
  have B:=h.mem (x:=b) (by simp)
  have D:=h.mem (x:=c) (by simp)
  simp only[sY,BM,l_,eu,fO]
  rw[show(a*65536+b*256+c)/262144%64=a/4 by omega,show(a*65536+b*256+c)/4096%64=a%4*16+b/16 by omega,show(a*65536+b*256+c)/64%64=b%16*4+c/64 by omega,show(a*65536+b*256+c)%64=c%64 by omega]
  rfl
 |_::_::_::_::_,h,_=>by simp at h
theorem z4:(prog.info? 122).map (·.zero)=some (some (.agg (c_ .u8 [0,0,0,0]).toArray)):=by kernel_rfl
theorem s4:(prog.info? 122).map (·.size)=some 4:=by kernel_rfl
theorem II:(prog.info? 5).map (·.size)=some 1:=by kernel_rfl
theorem In {l:List Int} (h:Bytes l):Bytes (l_ l):= .of_mem fun c B=>by
 obtain⟨n,h0,h1,rfl⟩:=JY l (fun x q=>h.mem q) c B
 have:=FJ n ⟨h0,h1⟩
 omega
theorem NH (x:Int):(BM x).length=4:=rfl
theorem La (A:Option Addr) (xs:List Int) (n c:Nat) (w:World) (hn:xs.length=n) (aH:n≤1000000) (hx:Bytes xs) (hl:Lies w A xs) (aM:n≤c):
  Calls prog 51 #[.slice A n c] w fun e w'=>e= .returned (.string ⟨(pS (l_ xs)).toArray⟩)∧Below w.heap.size w w':=by
 have ap:=Tryz.Builder_Grow_fresh w.heap.size w.heap.size (n/3*4+4) (w.alloc (.cells #[.pointer none,.slice none 0 0] 120)) (dQ _) (eC w _) (by simp) (by omega)
 rw[show((n/3*4+4:Nat):Int)=(n:Int)/3*4+4 from by omega]at ap
 have ay:=dM ap
 have HN:=dM hn
 have HX:=dM hx
 have HL:=dM hl
 have aF:=fun(g:Nat) (W:World)=>FF (P:=prog) 122 5 4 lS II g 0 (by decide) W
 clear ap hn hx hl
 go_enter func51,ntmps51
 go_wp2_with(go_at_call 78;refine ay.out.mono ?_;rintro e w1 ⟨rfl,ab,af⟩;have HS:=dM (show FU w.heap.size w.heap.size [] w1∧Below w.heap.size w w1 from⟨ab,(nO w _).trans af⟩);clear ab af ay)
 go_loopw[0] (fun v wr=> ∃(k:Nat) (A':Option Addr),3*k≤n∧v= .slice A' (n-3*k) (c-3*k)∧Lies w A' (xs.drop (3*k))∧FU w.heap.size w.heap.size (c_ .u8 (l_ (xs.take (3*k)))) wr∧Below w.heap.size w wr) (fun v _=>match v with| .slice _ m _=>m|_=>0)
 case atStart=>exact⟨0,A,by omega,rfl,HL.out,HS.out.1,HS.out.2⟩
 case round=>
  clear HS
  obtain⟨k,A',R,rfl,ar,ab,af⟩:=hrel
  have ao:=dM ar
  have az:=dM ab
  have ai:=dM af
  clear ar ab af
  obtain⟨m,hm⟩:=yaa (n-3*k)
  obtain⟨d,hd⟩:=yaa (c-3*k)
  have HM:Hid (m=n-3*k):=dM hm
  have HD:Hid (d=c-3*k):=dM hd
  rw[←hm,←hd]
  have aI:m≤1000000:=by omega
  have aJ:m≤d:=by omega
  clear hm hd
  have ak:w.heap.size≤wr.heap.size:=ai.out.size
  have G:(xs.drop (3*k)).length=m:=by rw[eq,HN.out,HM.out]
  have D:Bytes (xs.drop (3*k)):=HX.out.drop _
  have aL:(l_ (xs.take (3*k))).length≤2000000:=by rw[zM,ep,HN.out];omega
  by_cases aK:3≤m
  ·have aB:(3:Int)≤(m:Int):=by omega
   obtain⟨b,o,rfl,_,_⟩:=ao.out.at (by rw[G];omega)
   have aD:Hid (Lies w (if d=3 then some ⟨b,o,none⟩else some ⟨b,o+3,none⟩) (xs.drop (3*(k+1)))):=dM (by
    by_cases h3:d=3
    ·have:xs.drop (3*(k+1))=[]:=fo (by rw[HN.out];have:=HM.out;omega)
     rw[this];exact fun h=>absurd h (by simp)
    ·rw[dN h3]
     have:=Lies.of (Src.drop ao.out 3)
     rw[jK,Option.map_some,eW]at this
     rwa [show 3*(k+1)=3*k+3 by omega])
   have am:((xs.drop (3*k)).take 3).length=3:=by rw[ep,G];omega
   have Z:=uO (D.take 3)
   have HJ:=dM (fun(W:World) (hb:Below w.heap.size w W)=>Nc _ ((xs.drop (3*k)).take 3) 3 d W am (by omega) (D.take 3) ((ao.out.take 3).below hb))
   have F:Hid (l_ (xs.take (3*(k+1)))=l_ (xs.take (3*k))++BM (sY ((xs.drop (3*k)).take 3))):=dM (by
    have h1:=qH _ (by rw[am];exact dQ _) (D.take 3)
    rw[am,eo (by rw[NH];decide)]at h1
    rw[h1,←Lm _ _ (by rw[ep,HN.out];have:=HM.out;omega)]
    congr 1
    rw[show 3*(k+1)=3*k+3 by omega,List.take_add])
   obtain⟨x,X⟩:=yaa (sY ((xs.drop (3*k)).take 3))
   rw[←X]at Z HJ F
   obtain⟨x0,x1⟩:=Z
   have ah:=dM (fun(W:World)=>M1 x W x0 x1)
   obtain⟨L,M⟩:=yaa (BM x)
   have U:L.length=4:=by rw[M];rfl
   rw[←M]at F ah
   have E:=dM U
   clear am X M U G D
   go_wp2_with(first
    |(go_at_call 80;refine(HJ.out _ ai.out).mono ?_;rintro e w' ⟨rfl,rfl⟩)
    |(go_at_call 79;refine(ah.out _).mono ?_;rintro e w2 ⟨rfl,ag⟩;have O:=dM ag;clear ag)
    |(refine nG rfl (some 4) rfl _ rfl _ z4 ?_;intro g w3 hg ad B;have aj:=dM (O.out.grown B O.out.size (by simp));have aC:wr.heap.size≤g:=dV O.out.size hg;clear B;try go_frame)
    |(refine nn rfl none rfl _ (.tmp 4) (.tmp 20) rfl g 0 (c_ .u8 L) rfl rfl _ _ ad (by simp[E.out]) (by rw[s4,b_,E.out]) (oW _ _) ?_;intro w4 I B;rw[nr _ _ (by simp[E.out])]at I;have N:=dM (aj.out.grown B aj.out.size (by intro k R;injection R with R;omega));have aq:=dM I;clear B ad I;try go_frame))
   refine(qC w.heap.size w.heap.size (c_ .u8 (l_ (xs.take (3*k)))) ⟨g,0,none⟩ 4 4 L w4 (rv az.out N.out) E.out (by rw[b_];omega) (dV ak N.out.size) (fun j u Y=>by rw[eW,eL,aq.out.cell];exact Y)).mono ?_
   rintro e Q ⟨rfl,aa,ae⟩
   have V:Hid (FU w.heap.size w.heap.size (c_ .u8 (l_ (xs.take (3*(k+1))))) Q∧Below w.heap.size w Q):=dM ⟨by rw[F.out,vX];exact aa,(ai.out.trans (N.out.mono ak)).trans ae⟩
   clear aa ae
   go_wp2_with fail
   go_roundw
   case rel=>exact⟨k+1,_,by have:=HM.out;omega,by rw[show n-3*(k+1)=m-3 by have:=HM.out;omega,show c-3*(k+1)=d-3 by have:=HD.out;omega],aD.out,V.out.1,V.out.2⟩
   case measure=>simp;omega
  ·have aB: ¬(3:Int)≤(m:Int):=by omega
   have Z:=uO D
   have HJ:=dM (Nc A' (xs.drop (3*k)) m d wr G (by omega) D (ao.out.below ai.out))
   have F:Hid (l_ xs=l_ (xs.take (3*k))++(BM (sY (xs.drop (3*k)))).take ((8*m+5)/6)):=dM (by
    have h1:=qH _ (by rw[G];omega) D
    rw[G]at h1
    rw[h1,←Lm _ _ (by rw[ep,HN.out];omega),gu])
   obtain⟨x,X⟩:=yaa (sY (xs.drop (3*k)))
   rw[←X]at Z HJ F
   obtain⟨x0,x1⟩:=Z
   have ah:=dM (fun(W:World)=>M1 x W x0 x1)
   have aw:=dM (fun(W:World)=>rO m W (by omega))
   obtain⟨L,M⟩:=yaa (BM x)
   have U:L.length=4:=by rw[M];rfl
   rw[←M]at F ah
   have E:=dM U
   obtain⟨q,hq⟩:=yaa ((8*m+5)/6)
   have aA:q≤4:=by omega
   rw[←hq]at aw F
   have aG:=fun(g:Nat) (W:World)=>LG (P:=prog) 122 5 4 lS II g 0 q (by decide) aA .i64 W
   have av:(L.take q).length=q:=by rw[ep,U];omega
   have ax:=dM av
   clear X M U G D hq av
   go_wp2_with(first
    |(go_at_call 80;refine HJ.out.mono ?_;rintro e w' ⟨rfl,rfl⟩)
    |(go_at_call 79;refine(ah.out _).mono ?_;rintro e w2 ⟨rfl,ag⟩;have O:=dM ag;clear ag)
    |(go_at_call 82;refine(aw.out _).mono ?_;rintro e w' ⟨rfl,rfl⟩)
    |(refine nG rfl (some 5) rfl _ rfl _ z4 ?_;intro g w3 hg ad B;have aj:=dM (O.out.grown B O.out.size (by simp));have aC:wr.heap.size≤g:=dV O.out.size hg;clear B;try go_frame)
    |(refine nn rfl none rfl _ (.tmp 5) (.tmp 25) rfl g 0 (c_ .u8 L) rfl rfl _ _ ad (by simp[E.out]) (by rw[s4,b_,E.out]) (oW _ _) ?_;intro w4 I B;rw[nr _ _ (by simp[E.out])]at I;have N:=dM (aj.out.grown B aj.out.size (by intro k R;injection R with R;omega));have aq:=dM I;clear B ad I;try go_frame))
   refine(qC w.heap.size w.heap.size (c_ .u8 (l_ (xs.take (3*k)))) ⟨g,0,none⟩ q 4 (L.take q) w4 (rv az.out N.out) ax.out (by rw[b_];omega) (dV ak N.out.size) (fun j u Y=>by
    rw[eW,eL,aq.out.cell]
    have hj:=(eP.1 Y).1
    rw[b_,ax.out]at hj
    rw[c_,j3,gI,dP hj]at Y
    exact Y)).mono ?_
   rintro e Q ⟨rfl,aa,ae⟩
   have V:Hid (Lib.IsBuilder 120 5 w.heap.size w.heap.size (Lib.byteCells (pS (l_ xs))) Q∧Below w.heap.size w Q):=dM ⟨.inr (by rw[N1 (In HX.out),F.out,vX];exact aa),(ai.out.trans (N.out.mono ak)).trans ae⟩
   clear aa ae
   go_wp2_with(go_at_call 83;refine(Tryz.Builder_String_any w.heap.size w.heap.size (pS (l_ xs)) Q V.out.1 V.out.2.size).mono ?_;rintro e w6 ⟨rfl,au⟩;have aE:=dM au;clear au)
   go_ret
   exact⟨rfl,V.out.2.trans aE.out⟩
theorem uC (w:World) (a b:ByteArray) (t:TypeId):LiesT (w.alloc (.cells #[.string a,.string b] t)) w.heap.size 0 [a,b]:=fun i x hi=>by
 match i,hi with
 |0,hi=>injection hi with hi;subst hi;simp
 |1,hi=>injection hi with hi;subst hi;simp
theorem Et (I B kind payload:ByteArray) (H:List Int) (w:World) (hH:Bytes H) (aM:H.length≤1000) (hs:B.size≤1000) (hp:payload.size≤100000) (ht:Tabs w)
  (hh: ∀W,Below w.heap.size w W→Calls prog 52 #[.agg #[.string I,.string B],.string kind] W fun e w'=>e= .returned (.string (toS H))∧Below W.heap.size W w'):
  Calls prog 23 #[.agg #[.string I,.string B],.string kind,.string payload] w fun e w'=> ∃t,a_ t=(l_ H++46::l_ (a_ payload))++46::l_ (nA (a_ B) (l_ H++46::l_ (a_ payload)))∧e= .returned (.string t)∧Below w.heap.size w w':=by
 have az:=dM hh
 obtain⟨h,R⟩:=yaa (toS H)
 have ap:a_ h=H:=by rw[R,th hH]
 have aV:h.size≤1000:=by rw[R,qc];exact aM
 rw[←R]at az
 have ah:=dM (fun(W:World) (A:Option Addr) (c:Nat) (E:Lies W A (a_ h)) (L:h.size≤c)=>La A (a_ h) h.size c W (j_ h) (by omega) (pM h) E L)
 have ag:=dM (fun(W:World) (A:Option Addr) (c:Nat) (E:Lies W A (a_ payload)) (L:payload.size≤c)=>La A (a_ payload) payload.size c W (j_ payload) (by omega) (pM payload) E L)
 obtain⟨Q,ad⟩: ∃e:ByteArray,e=⟨(pS (l_ (a_ h))).toArray⟩:=⟨_,rfl⟩
 obtain⟨O,ab⟩: ∃e:ByteArray,e=⟨(pS (l_ (a_ payload))).toArray⟩:=⟨_,rfl⟩
 have s1:a_ Q=l_ H:=by rw[ad,←ap];exact th (In (pM h))
 have Z:a_ O=l_ (a_ payload):=by rw[ab];exact th (In (pM payload))
 have z1:Q.size≤3000:=by rw[←j_,s1,zM];omega
 have z2:O.size≤300000:=by rw[←j_,Z,zM,j_];omega
 rw[←ad]at ah
 rw[←ab]at ag
 rw[←s1,←Z]
 have ay:=dM (fun(W:World) (b c:Nat) (E:LiesT W b 0 [Q,O]) (q:b<W.heap.size) (L:2≤c)=>KN Q O b 0 c W E q L (by omega))
 have am:=dM (nO w (.cells #[.string I,.string B] 41))
 have aO:=dM ht
 have aW:=fun(g:Nat)=>FF (P:=prog) 82 5 32 gG s5 g 0 (by omega)
 have U: ∀W,Below (w.alloc (.cells #[.string I,.string B] 41)).heap.size (w.alloc (.cells #[.string I,.string B] 41)) W→W.cell? ⟨w.heap.size,0,none⟩=some (.string I)∧W.cell? ⟨w.heap.size,1,none⟩=some (.string B):=fun W q=>⟨(q.cell (p:=⟨w.heap.size,0,none⟩) (by simp)).trans (by simp),(q.cell (p:=⟨w.heap.size,1,none⟩) (by simp)).trans (by simp)⟩
 have HX:=dM U
 clear hh R ap ad ab ht U s1 Z
 go_enter func23,ntmps23
 go_wp2_with(first
  |(go_at_call 52;(with_reducible refine(az.out _ am.out).mono ?_);rintro e w1 ⟨rfl,q⟩;have aH:=dM q;clear q)
  |(refine Hr rfl (some 12) rfl _ _ 5 (.tmp 11) rfl h rfl ew ee fc ?_;intro A1 c1 w2 ar aL q;have aF:=yab aH q;have aR:=dM ar;clear q ar;try go_frame)
  |(go_at_call 51;(with_reducible refine(ah.out _ _ _ aR.out aL).mono ?_);rintro e w3 ⟨rfl,q⟩;have aE:=yab aF q;clear q ah)
  |(refine Hr rfl (some 15) rfl _ _ 5 (.tmp 14) rfl payload rfl ew ee fc ?_;intro A2 c2 w4 aq aK q;have aD:=yab aE q;have aQ:=dM aq;clear q aq;try go_frame)
  |(go_at_call 51;(with_reducible refine(ag.out _ _ _ aQ.out aK).mono ?_);rintro e V ⟨rfl,q⟩;have aC:=yab aD q;clear q ag)
  |(go_at_call 50;(with_reducible refine(ay.out _ _ _ (uC V Q O _) (by simp) (dQ _)).mono ?_);rintro e w6 ⟨F,au,rfl,q⟩;have aI:=dM au;have ak:=dM (aC.out.trans (((nO V _).trans (q.mono (nO V _).size)).mono aC.out.size));have U:=(HX.out _ ak.out).1;have x1:=(HX.out _ ak.out).2;have aj:Hid (Below w.heap.size w w6):=dM (am.out.trans (ak.out.mono am.out.size));clear q ay au)
  |(go_at_call 53;fail))
 have zb:F.size≤400000:=by have:=eH List.length aI.out;rw[j_,dS,eu,j_,j_]at this;omega
 have ae:=dM (yR I B F w6 (by omega) (by omega) (aO.out.below aj.out))
 have G:Hid ((nA (a_ B) (a_ F)).length=32∧Bytes (nA (a_ B) (a_ F))):=dM ⟨ww _,BU _⟩
 obtain⟨D,hD⟩:=yaa (nA (a_ B) (a_ F))
 rw[←hD]at ae G
 have aS:=dM (fun _:Unit=>hD)
 have af:=dM (fun(W:World) (g:Nat) (E:Lies W (some ⟨g,0,none⟩) D)=>La (some ⟨g,0,none⟩) D 32 32 W G.out.1 (by omega) G.out.2 E (dQ _))
 obtain⟨N,aa⟩: ∃e:ByteArray,e=⟨(pS (l_ D)).toArray⟩:=⟨_,rfl⟩
 have Y:a_ N=l_ D:=by rw[aa];exact th (In G.out.2)
 have z3:N.size≤100:=by rw[←j_,Y,zM,G.out.1];omega
 rw[←aa]at af
 have aP:=dM Y
 have ax:=dM (fun(W:World) (b c:Nat) (E:LiesT W b 0 [F,N]) (q:b<W.heap.size) (L:2≤c)=>KN F N b 0 c W E q L (by omega))
 clear hD aa Y
 go_wp2_with(first
  |(go_at_call 53;(with_reducible refine ae.out.mono ?_);rintro e w7 ⟨rfl,q⟩;have ai:=yab aj q;clear q ae)
  |(refine nG rfl (some 8) rfl _ rfl _ z24 ?_;intro g8 w8 aJ aw M;have aB:=dM (ai.out.grown M ai.out.size (by simp));have aX:w.heap.size≤g8:=dV ai.out.size aJ;clear M;try go_frame)
  |(refine nn rfl none rfl _ (.tmp 8) (.tmp 21) rfl g8 0 (c_ .u8 D) rfl rfl _ _ aw (by simp[G.out.1]) (by rw[rP,b_,G.out.1]) (oW _ _) ?_;intro w9 av M;rw[nr _ _ (by simp[G.out.1])]at av;have aA:=dM (aB.out.grown M aB.out.size (by intro k hk;injection hk with hk;omega));clear M aw;try go_frame)
  |(go_at_call 51;(with_reducible refine(af.out _ _ (Lies.whole av)).mono ?_);rintro e X ⟨rfl,q⟩;have aG:=yab aA q;clear q af)
  |(go_at_call 50;(with_reducible refine(ax.out _ _ _ (uC X F N _) (by simp) (dQ _)).mono ?_);rintro e aU ⟨tx,ao,rfl,q⟩;have aN:=dM ao;have aT:=dM (aG.out.trans (((nO X _).trans (q.mono (nO X _).size)).mono aG.out.size));clear q ax ao))
 go_ret
 exact⟨_,by rw[aN.out,aP.out,aS.out (),aI.out],rfl,aT.out⟩
theorem ye (W:World) (k B:List ByteArray) (v L:Value) (h:RepK W k v) (V:RepK W B L):
  Calls prog 99 #[v,L] W fun e w'=>e= .returned (.bool (decide (k=B)))∧Below W.heap.size W w':=by
 obtain⟨A,c,rfl,hl,U⟩:=h
 obtain⟨M,I,rfl,aa,R⟩:=V
 by_cases D:k.length=B.length
 ·by_cases h0:k=[]
  ·subst h0
   have G:B=[]:=ea D.symm
   subst G
   refine(Tryz.slices_Equal_string_empty A M c 0 I W (by omega)).mono ?_
   rintro e w' ⟨rfl,rfl⟩
   exact⟨rfl,dU _ _⟩
  ·have G:B≠[]:=fun e=>h0 (ea (by rw[D,e];rfl))
   obtain⟨b,o,rfl,Z,Q⟩:=U h0
   obtain⟨X,N,rfl,Y,O⟩:=R G
   refine(Tryz.slices_Equal_string b o k.length c X N B.length I k B W (dQ _) (dQ _) (by omega) (by omega) (fun j E=> ?_) (fun j E=> ?_)).mono ?_
   ·obtain⟨u,h1,_,F⟩:=Q j E
    rw[F,dR,h1];rfl
   ·obtain⟨u,h1,_,F⟩:=O j E
    rw[F,dR,h1];rfl
   ·rintro e w' ⟨rfl,q,rfl⟩
    rw[g9,g9]
    exact⟨rfl,rG (dU _ _) _⟩
 ·refine(Tryz.slices_Equal_string_lens A M k.length c B.length I W D).mono ?_
  rintro e w' ⟨rfl,rfl⟩
  rw[dT (fun e=>D (by rw[e]))]
  exact⟨rfl,dU _ _⟩
theorem BT {w w':World} {p:Addr} {v:Value} (h:w.cell? p=some v) (q:w.grownBy w' none):w'.cell? p=some v:=(jC (q.block p.block (nc h) (by simp))).trans h
def Jm (x:J):Prop:= ∀(b:J) (va vb:Value) (W:World),RepJ W x va→RepJ W b vb→Calls prog 67 #[va,vb] W fun e w'=>e= .returned (.bool (s9 x b))∧Below W.heap.size W w'
theorem RepJ.cells {W:World} {j:J} {v:Value} {b o:Nat} (h:RepJ W j v) (E:Five W b o v): ∃A B c K q d,v= .agg #[.int .i64 j.kind,.int .i64 j.n,.string j.s,.slice A B c,.slice K q d]∧W.cell? ⟨b,o,none⟩=some (.int .i64 j.kind)∧W.cell? ⟨b,o+1,none⟩=some (.int .i64 j.n)∧W.cell? ⟨b,o+2,none⟩=some (.string j.s)∧W.cell? ⟨b,o+3,none⟩=some (.slice A B c)∧W.cell? ⟨b,o+4,none⟩=some (.slice K q d):=by
 obtain⟨L,A,c,rfl,_,D,_,_⟩:=h.open
 obtain⟨K,d,rfl,_,_⟩:=D.open
 obtain⟨a0,a1,a2,a3,a4,e,h0,h1,I,G,F⟩:=E
 simp only[gX,ie,gM,jp]at e
 obtain⟨rfl,rfl,rfl,rfl,rfl⟩:=e
 exact⟨A,_,c,K,_,d,rfl,h0,h1,I,G,F⟩
theorem NC (l m:List J) (ih: ∀x∈l,Jm x) (A A':Option Addr) (c c':Nat) (W:World) (hl:l.length≤9223372036854775807) (hm:m.length≤9223372036854775807)
  (hc:l≠[]→ ∃b o,A=some ⟨b,o,none⟩∧b<W.heap.size∧RepC W b o l) (az:m≠[]→ ∃b o,A'=some ⟨b,o,none⟩∧b<W.heap.size∧RepC W b o m):
  Calls prog 100 #[.slice A l.length c,.slice A' m.length c',.func (.func 67) #[] #[]] W fun e w'=>e= .returned (.bool (wh l m))∧Below W.heap.size W w':=by
 have ap:Hid (wh l m=true↔l.length=m.length∧ ∀i (h1:i<l.length) (X:i<m.length),s9 l[i] m[i]=true):=dM Mp
 have HC:=dM hc
 have aE:=dM az
 have aD:=dM ih
 obtain⟨p,hp⟩: ∃k,k=l.length:=⟨_,rfl⟩
 obtain⟨q,hq⟩: ∃k,k=m.length:=⟨_,rfl⟩
 rw[←hp]at hl⊢
 rw[←hq]at hm⊢
 have HP:=dM hp
 have HQ:=dM hq
 clear hc az ih hp hq
 by_cases aw:p=q
 ·subst aw
  have hE:((p:Int)!=(p:Int))=false:=by simp
  go_enter func100,ntmps100
  go_wp2
  go_loopw[17] (fun i wr=> ∃j:Nat,j≤p∧i= .int .i64 (j:Int)∧(∀x (h1:x<l.length) (X:x<m.length),x<j→s9 l[x] m[x]=true)∧Below W.heap.size W wr) (fun i _=>p-(intOf i).toNat)
  case atStart=>exact⟨0,by omega,rfl,fun x _ _ hx=>absurd hx (gU _),dU _ _⟩
  case round=>
   obtain⟨j,hj,rfl,aA,B⟩:=hrel
   have HA:=dM aA
   have aF:=dM B
   clear aA
   by_cases am:j<p
   ·have V:j<l.length:=by rw[←HP.out];exact am
    have aa:j<m.length:=by rw[←HQ.out];exact am
    obtain⟨g,o,rfl,hg,av⟩:=HC.out (fun e=>by rw[e]at V;exact absurd V (gU _))
    obtain⟨Y,U,rfl,aC,au⟩:=aE.out (fun e=>by rw[e]at aa;exact absurd aa (gU _))
    obtain⟨v1,ak,ay⟩:=av.at j V
    obtain⟨v2,aj,ax⟩:=au.at j aa
    have ab:=dM (fun(w':World) (D:Below W.heap.size W w')=>aD.out l[j] (fe V) m[j] v1 v2 w' (RepJ.below D _ _ ak) (RepJ.below D _ _ aj))
    obtain⟨O,F,c1,N,E,M,rfl,z0,z1,z2,z3,z4⟩:=(RepJ.below B _ _ ak).cells (ay.below hg B)
    obtain⟨A2,y3,c2,K2,y4,d2,rfl,u0,u1,u2,u3,u4⟩:=(RepJ.below B _ _ aj).cells (ax.below aC B)
    obtain⟨f,ao⟩:=yaa (s9 l[j] m[j])
    rw[←ao]at ab
    have aq:=dM ao
    obtain⟨L,ai⟩: ∃x,x=l[j].kind:=⟨_,rfl⟩
    obtain⟨I,ah⟩: ∃x,x=l[j].n:=⟨_,rfl⟩
    obtain⟨G,ag⟩: ∃x,x=l[j].s:=⟨_,rfl⟩
    obtain⟨y0,af⟩: ∃x,x=m[j].kind:=⟨_,rfl⟩
    obtain⟨y1,ae⟩: ∃x,x=m[j].n:=⟨_,rfl⟩
    obtain⟨y2,ad⟩: ∃x,x=m[j].s:=⟨_,rfl⟩
    rw[←ai,←ah,←ag,←af,←ae,←ad]at ab
    rw[←ai]at z0
    rw[←ah]at z1
    rw[←ag]at z2
    rw[←af]at u0
    rw[←ae]at u1
    rw[←ad]at u2
    have Q:=dO wr (.cells #[.int .i64 L,.int .i64 I,.string G,.slice O F c1,.slice N E M] 63) none
    have t0:(wr.alloc (.cells #[.int .i64 L,.int .i64 I,.string G,.slice O F c1,.slice N E M] 63)).cell? ⟨Y,U+j*5,none⟩=some (.int .i64 y0):=BT u0 Q
    have t1:(wr.alloc (.cells #[.int .i64 L,.int .i64 I,.string G,.slice O F c1,.slice N E M] 63)).cell? ⟨Y,U+j*5+1,none⟩=some (.int .i64 y1):=BT u1 Q
    have t2:(wr.alloc (.cells #[.int .i64 L,.int .i64 I,.string G,.slice O F c1,.slice N E M] 63)).cell? ⟨Y,U+j*5+2,none⟩=some (.string y2):=BT u2 Q
    have t3:(wr.alloc (.cells #[.int .i64 L,.int .i64 I,.string G,.slice O F c1,.slice N E M] 63)).cell? ⟨Y,U+j*5+3,none⟩=some (.slice A2 y3 c2):=BT u3 Q
    have t4:(wr.alloc (.cells #[.int .i64 L,.int .i64 I,.string G,.slice O F c1,.slice N E M] 63)).cell? ⟨Y,U+j*5+4,none⟩=some (.slice K2 y4 d2):=BT u4 Q
    have aB:Below W.heap.size W ((wr.alloc (.cells #[.int .i64 L,.int .i64 I,.string G,.slice O F c1,.slice N E M] 63)).alloc (.cells #[.int .i64 y0,.int .i64 y1,.string y2,.slice A2 y3 c2,.slice K2 y4 d2] 63)):=(B.alloc B.size _).alloc (by have:=B.size;simp;omega) _
    have R:=dM aB
    have w0:(0:Int)≤(j:Int):=by omega
    have w1:(j:Int)<(p:Int):=by omega
    clear av au ak aj ay ax ao ai ah ag af ae ad aB B Q
    cases f with
    |true=>
     go_wp2_with(go_at_call 67;(with_reducible refine(ab.out _ R.out).mono ?_);rintro e w' ⟨rfl,D⟩;have ar:=yab R D;clear D)
     go_roundw
     case rel=>exact⟨j+1,by omega,by go_num,fun x h1 X hx=>by
      rcases eX x j with h|h
      ·exact HA.out x h1 X h
      ·obtain rfl:x=j:=by omega
       exact aq.out.symm,ar.out⟩
     case measure=>simp[intOf];omega
    |false=>
     have Z:Hid (wh l m=false):=dM (by
      rw[←im,ap.out]
      rintro⟨_,h⟩
      rw[h j V aa]at aq
      exact absurd aq.out (by decide))
     go_wp2_with(go_at_call 67;(with_reducible refine(ab.out _ R.out).mono ?_);rintro e w' ⟨rfl,D⟩;have ar:=yab R D;clear D)
     go_ret
     rw[Z.out]
     exact⟨rfl,ar.out⟩
   ·obtain rfl:j=p:=by omega
    have Z:Hid (wh l m=true):=dM (by
     rw[ap.out]
     exact⟨by rw[←HP.out,←HQ.out],fun x h1 X=>HA.out x h1 X (by rw[HP.out];exact h1)⟩)
    have aG: ¬(j:Int)<(j:Int):=by omega
    clear am B
    go_wp2
    go_ret
    rw[Z.out]
    exact⟨rfl,aF.out⟩
 ·have hE:((p:Int)!=(q:Int))=true:=by rw[kb];omega
  have aH: ¬(p:Int)=(q:Int):=by omega
  have Z:Hid (wh l m=false):=dM (by
   rw[←im,ap.out]
   rintro⟨h,_⟩
   exact aw (by rw[HP.out,HQ.out];exact h))
  go_enter func100,ntmps100
  go_wp2
  go_ret
  rw[Z.out]
  exact⟨rfl,dU _ _⟩
theorem RepC.below {W D:World} (q:Below W.heap.size W D) {b:Nat} (B:b<W.heap.size): ∀(l:List J) (o:Nat),RepC W b o l→RepC D b o l
 |[],o,_=>by rw[RepC];trivial
 |x::r,o,h=>by
  rw[RepC]at h⊢
  obtain⟨⟨v,h1,F⟩,E⟩:=h
  exact⟨⟨v,RepJ.below q _ _ h1,F.below B q⟩,RepC.below q B r (o+5) E⟩
theorem Cf (a b:J):s9 a b=(decide (a.kind=b.kind)&&decide (a.n=b.n)&&decide (a.s=b.s)&&decide (a.k=b.k)&&wh a.l b.l):=by
 cases a;cases b;rfl
theorem Ew (a:J) (ih: ∀x∈a.l,Jm x):Jm a:=fun b va vb W ha q=>by
 obtain⟨vk,A,c,rfl,_,hk,hl,hc⟩:=ha.open
 obtain⟨aw,Y,R,rfl,_,ap,ar,au⟩:=q.open
 have aa:=dM (fun(w':World) (M:Below W.heap.size W w')=>ye w' a.k b.k vk aw (hk.below M) (ap.below M))
 have aq:=dM (fun(w':World) (M:Below W.heap.size W w')=>NC a.l b.l ih A Y c R w' hl ar
  (fun ao=>by obtain⟨g,o,e,G,O⟩:=hc ao;exact⟨g,o,e,dX G M.size,RepC.below M G _ _ O⟩)
  (fun ao=>by obtain⟨g,o,e,G,O⟩:=au ao;exact⟨g,o,e,dX G M.size,RepC.below M G _ _ O⟩))
 obtain⟨K,d,rfl,_,_⟩:=hk.open
 obtain⟨K',d',rfl,_,_⟩:=ap.open
 have B:=dM (Cf a b)
 obtain⟨f,hf⟩:=yaa (wh a.l b.l)
 obtain⟨g,G⟩: ∃f,f=decide (a.k=b.k):=⟨_,rfl⟩
 rw[←hf]at aq
 rw[←G]at aa
 rw[←hf,←G]at B
 obtain⟨F,am⟩: ∃x,x=a.kind:=⟨_,rfl⟩
 obtain⟨E,ak⟩: ∃x,x=a.n:=⟨_,rfl⟩
 obtain⟨D,aj⟩: ∃x,x=a.s:=⟨_,rfl⟩
 obtain⟨x3,ai⟩: ∃x,x=a.l.length:=⟨_,rfl⟩
 obtain⟨x4,ah⟩: ∃x,x=a.k.length:=⟨_,rfl⟩
 obtain⟨y0,ag⟩: ∃x,x=b.kind:=⟨_,rfl⟩
 obtain⟨y1,af⟩: ∃x,x=b.n:=⟨_,rfl⟩
 obtain⟨y2,ae⟩: ∃x,x=b.s:=⟨_,rfl⟩
 obtain⟨Z,ad⟩: ∃x,x=b.l.length:=⟨_,rfl⟩
 obtain⟨y4,ab⟩: ∃x,x=b.k.length:=⟨_,rfl⟩
 rw[←ai,←ad]at aq
 rw[←ah,←ab]at aa
 rw[←am,←ak,←aj,←ag,←af,←ae]at B
 rw[←am,←ak,←aj,←ai,←ah,←ag,←af,←ae,←ad,←ab]
 obtain⟨r,O⟩:=yaa (s9 a b)
 rw[←O]at B⊢
 obtain⟨U,Q⟩: ∃x,x=(W.alloc (.cells #[.int .i64 F,.int .i64 E,.string D,.slice A x3 c,.slice K x4 d] 63)).alloc (.cells #[.int .i64 y0,.int .i64 y1,.string y2,.slice Y Z R,.slice K' y4 d'] 63):=⟨_,rfl⟩
 have av:Below W.heap.size W U:=by rw[Q];exact((dU _ _).alloc (dQ _) _).alloc (by simp) _
 have L:=dM av
 have V:=dM Q
 have c3:U.cell? ⟨W.heap.size,3,none⟩=some (.slice A x3 c):=by rw[Q];simp
 have N:U.cell? ⟨W.heap.size+1,3,none⟩=some (.slice Y Z R):=by rw[Q];simp
 clear ha q hk ap hl ar hc au hf G am ak aj ai ah ag af ae ad ab O av Q ih
 by_cases h0:F=y0
 ·subst h0
  have e0:(F==F)=true:=beq_self_eq_true _
  by_cases h1:E=y1
  ·subst h1
   have e1:(E==E)=true:=beq_self_eq_true _
   by_cases h2:D=y2
   ·subst h2
    have e2:(D.toList==D.toList)=true:=by simp
    cases g with
    |true=>
     have I:Hid (r=f):=dM (by rw[B.out];simp)
     clear B
     go_enter mf,lO
     go_wp2_with(first
      |(go_at_call 99;rw[show((W.alloc (.cells #[.int .i64 F,.int .i64 E,.string D,.slice A x3 c,.slice K x4 d] 63)).alloc (.cells #[.int .i64 F,.int .i64 E,.string D,.slice Y Z R,.slice K' y4 d'] 63))=U from V.out.symm];(with_reducible refine(aa.out _ L.out).mono ?_);rintro e w3 ⟨rfl,q⟩;have X:=yab L q;have az:=(q.cell (p:=⟨W.heap.size,3,none⟩) (nc c3)).trans c3;have ay:=(q.cell (p:=⟨W.heap.size+1,3,none⟩) (nc N)).trans N;clear q c3 N)
      |(go_at_call 100;(with_reducible refine(aq.out _ X.out).mono ?_);rintro e w4 ⟨rfl,q⟩;have ax:=yab X q;clear q))
     go_ret
     rw[I.out]
     exact⟨rfl,ax.out⟩
    |false=>
     have I:Hid (r=false):=dM (by rw[B.out];simp)
     clear B c3 N
     go_enter mf,lO
     go_wp2_with(go_at_call 99;rw[show((W.alloc (.cells #[.int .i64 F,.int .i64 E,.string D,.slice A x3 c,.slice K x4 d] 63)).alloc (.cells #[.int .i64 F,.int .i64 E,.string D,.slice Y Z R,.slice K' y4 d'] 63))=U from V.out.symm];(with_reducible refine(aa.out _ L.out).mono ?_);rintro e w3 ⟨rfl,q⟩;have X:=yab L q;clear q)
     go_ret
     rw[I.out]
     exact⟨rfl,X.out⟩
   ·have e2:(D.toList==y2.toList)=false:=JW h2
    have I:Hid (r=false):=dM (by rw[B.out,dT h2];simp)
    clear B h2 c3 N
    go_enter mf,lO
    go_wp2
    go_ret
    rw[I.out,←V.out]
    exact⟨rfl,L.out⟩
  ·have e1:(E==y1)=false:=by rw[dY];exact h1
   have I:Hid (r=false):=dM (by rw[B.out,dT h1];simp)
   clear B c3 N
   go_enter mf,lO
   go_wp2
   go_ret
   rw[I.out,←V.out]
   exact⟨rfl,L.out⟩
 ·have e0:(F==y0)=false:=by rw[dY];exact h0
  have I:Hid (r=false):=dM (by rw[B.out,dT h0];simp)
  clear B c3 N
  go_enter mf,lO
  go_wp2
  go_ret
  rw[I.out,←V.out]
  exact⟨rfl,L.out⟩
theorem Ce (a:J):Jm a:=by
 induction a using J.ind with
 |h kind n s l k ih=>exact Ew _ ih
def Gd (s:ByteArray):ByteArray:=⟨(pS (l_ (a_ s))).toArray⟩
theorem JF (s:ByteArray):a_ (Gd s)=l_ (a_ s):=JE (In (pM s))
theorem KE (s:ByteArray):(Gd s).size=(8*s.size+5)/6:=by rw[←j_,JF,zM,j_]
theorem JX: ∀{l:List Int},Good l→Bytes (g_ l)
 |[],_=> .of_mem (by simp[g_])
 |[_],_=> .of_mem (by simp[g_])
 |[a,b],h=> .of_mem fun x q=>by
  have D:=h 0 (by simp)
  have B:=h 1 (by simp)
  simp only[eA,fy]at D B
  have:=pK a
  have:=pK b
  simp only[g_,eF,fx,je]at q
  subst q;omega
 |[a,b,c],h=> .of_mem fun x q=>by
  have D:=h 0 (by simp)
  have B:=h 1 (by simp)
  have E:=h 2 (by simp)
  simp only[eA,fy]at D B E
  have:=pK a
  have:=pK b
  have:=pK c
  simp only[g_,eF,fx,je]at q
  rcases q with rfl|rfl<;>omega
 |a::b::c::d::r,h=> .of_mem fun x q=>by
  have D:=h 0 (by simp)
  have B:=h 1 (by simp)
  have E:=h 2 (by simp)
  have F:=h 3 (by simp)
  simp only[eA,fy]at D B E F
  have:=pK a
  have:=pK b
  have:=pK c
  have:=pK d
  simp only[g_,eF]at q
  rcases q with rfl|rfl|rfl|q
  ·omega
  ·omega
  ·omega
  ·exact(JX fun k G=>h (k+4) (by simp;omega)).mem q
theorem MS (n:Int) (w:World) (h0:0≤n) (h1:n<64):
  Calls prog 71 #[.int .i64 n] w fun e w'=>e= .returned (.int .u8 (sg n))∧w=w':=by
 have hi:=Ip .i64 n h0 h1
 go_enter func71,ntmps71
 go_wp2
 go_ret
 exact⟨rfl,rfl⟩
theorem LF (s:ByteArray) (w:World) (hs:s.size≤20000):
  Calls prog 44 #[.string s] w fun e w'=>e= .returned (.string (Gd s))∧Below w.heap.size w w':=by
 obtain⟨i0,ar,ai,ah,ag⟩:=gw su
 have U:(w.alloc (.cells #[] 5)).ownsRow w.heap.size 5 1 (.slice (some ⟨w.heap.size,0,none⟩) 0 0) 0 []:=iN w #[] 0 (dQ _) (by unfold maxLen;omega) rfl
 have af:=dM U
 clear U
 go_enter func44,ntmps44
 go_wp2
 go_loopw[3,4] (fun v i wr=> ∃j:Nat,6*j≤8*s.size+5∧i= .int .i64 ((6*j:Nat):Int)∧wr.ownsRow w.heap.size 5 1 v j (c_ .u8 (pa (a_ s) j))∧Below w.heap.size w wr) (fun _ i _=>8*s.size+6-(intOf i).toNat)
 case atStart=>exact⟨0,by omega,rfl,af.out,nO _ _⟩
 case round=>
  clear af
  obtain⟨j,hj,rfl,W,ad⟩:=hrel
  have F:=dM W
  have G:=dM ad
  clear W ad
  obtain⟨a,N⟩:=yaa (6*j)
  have D:=dM N
  rw[←N]at hj⊢
  clear N
  have aA:j≤40000:=by have:=D.out;omega
  by_cases ax:a<8*s.size
  ·have ao:(a:Int)<8*(s.size:Int):=by omega
   go_wp2
   obtain⟨wo,R⟩: ∃wo:World,wo=wr:=⟨_,rfl⟩
   rw[←R]at F G⊢
   clear R
   go_loop [5,6] (fun n k=> ∃i:Nat,i≤6∧k= .int .i64 ((a+i:Nat):Int)∧n= .int .i64 (nP (a_ s) a i)) (fun _ k=>a+6-(intOf k).toNat)
   case atStart=>exact⟨0,by omega,rfl,rfl⟩
   case round=>
    obtain⟨i,hi,rfl,rfl⟩:=hrel
    have am:=yT (a_ s) a i
    have ak:0≤nP (a_ s) a i∧nP (a_ s) a i<64:=by
     have:i=0∨i=1∨i=2∨i=3∨i=4∨i=5∨i=6:=by omega
     rcases this with rfl|rfl|rfl|rfl|rfl|rfl|rfl<;>constructor<;>omega
    obtain⟨L,I⟩:=ak
    clear am
    by_cases aB:i<6
    ·have B:Hid (nP (a_ s) a (i+1)=2*nP (a_ s) a i+qm (a_ s) (a+i)):=dM rfl
     obtain⟨k,M⟩:=yaa (a+i)
     rw[←M]at B⊢
     have az:k<a+6:=by omega
     have HK:=dM M
     obtain⟨x,q⟩:=yaa (nP (a_ s) a i)
     rw[←q]at L I B⊢
     clear M q
     by_cases ay:k<8*s.size
     ·have ap:k/8<s.size:=by omega
      have au:(s[k/8].toNat:Int)≤255:=by have:=s[k/8].toNat_lt;omega
      have aD:0≤(s[k/8].toNat:Int)/2^(7-k%8):=Int.ediv_nonneg (by omega) (by exact Int.pow_nonneg (by decide))
      have aC:(s[k/8].toNat:Int)/2^(7-k%8)≤255:=Int.le_trans (Int.ediv_le_self _ (by omega)) au
      have aw:Hid (qm (a_ s) k=(s[k/8].toNat:Int)/2^(7-k%8)%2):=dM (by rw[qm,o_ s _ ap])
      go_wp2
      go_round
      case rel=>
       refine⟨i+1,by omega,by rw[show a+(i+1)=k+1 by rw[HK.out];omega];go_num,by rw[B.out,aw.out]⟩
      case measure=>simp[intOf];omega
     ·have ae:qm (a_ s) k=0:=by
       unfold qm
       rw[dR,fJ (by rw[j_];omega)]
       show 0/2^(7-k%8)%2=(0:Int)
       rw[Int.zero_ediv];rfl
      rw[ae]at B
      clear ae
      go_wp2
      go_round
      case rel=>exact⟨i+1,by omega,by rw[show a+(i+1)=k+1 by rw[HK.out];omega];go_num,by rw[B.out,Int.add_zero]⟩
      case measure=>simp[intOf];omega
    ·have aq:i=6:=by omega
     subst aq
     have O:=dM (MS (nP (a_ s) a 6) wo L I)
     have Q:Hid (c_ .u8 (pa (a_ s) j)++[.int .u8 (sg (nP (a_ s) a 6))]=c_ .u8 (pa (a_ s) (j+1))):=dM (by rw[pa,vX,D.out];rfl)
     obtain⟨x,q⟩:=yaa (nP (a_ s) a 6)
     rw[←q]at L I O Q⊢
     obtain⟨y,hy⟩:=yaa (sg x)
     rw[←hy]at O Q
     clear q hy
     have aj:w.heap.size≤wo.heap.size:=G.out.size
     go_wp2_with(first
      |(go_at_call 71;refine O.out.mono ?_;rintro e w' ⟨rfl,rfl⟩)
      |(at_builtin;refine fm _ rfl (.tmp 43) (.tmp 46) 46 rfl w.heap.size 5 i0 (.int .u8 0) 1 1 ee ar ai ah ag rfl (by decide) _ j _ rfl (F.out.alloc _) ⟨wo.heap.size,0,none⟩ 1 1 [.int .u8 y] rfl rfl ?c1 ?c2 ?c3 ?c4 ?c5 ?_))
     case c1=>exact fS _ _ _
     case c2=>intro u hu;rw[eh.1 hu];rfl
     case c3=>unfold maxLen;omega
     case c4=>omega
     case c5=>simp;omega
     intro v' w' V aa _
     have HW:Hid (w'.ownsRow w.heap.size 5 1 v' (j+1) (c_ .u8 (pa (a_ s) (j+1)))∧Below w.heap.size w w'):=dM ⟨by rw[←Q.out];exact V,(G.out.alloc aj _).grown aa (by simp;omega) (rF F.out)⟩
     clear V aa
     go_wp2_with fail
     go_roundw
     case rel=>exact⟨j+1,by have:=D.out;omega,by rw[show 6*(j+1)=a+6 by have:=D.out;omega];go_num,HW.out.1,HW.out.2⟩
     case measure=>simp[intOf];omega
  ·have ao: ¬(a:Int)<8*(s.size:Int):=by omega
   have Z:j=(8*s.size+5)/6:=by have:=D.out;omega
   have E:=F.out
   rw[Z]at E
   rw[show pa (a_ s) ((8*s.size+5)/6)=l_ (a_ s)by rw[←j_ s];exact ud _ fun x hx=>(pM s).mem hx]at E
   obtain⟨A,c,rfl,hc,Y⟩:=H9 E (by rw[zM,j_])
   have ab:=zK A (l_ (a_ s)) ((8*s.size+5)/6) c wr (by rw[zM,j_]) Y
   have av:Hid (toS (l_ (a_ s))=Gd s):=dM rfl
   rw[av.out]at ab
   obtain⟨m,X⟩:=yaa ((8*s.size+5)/6)
   rw[←X]at ab⊢
   clear E hc Y X Z
   go_wp2_with fail
   go_ret
   exact⟨rfl,G.out⟩
def pT (c:Int) (n:Nat):Int:=if wo c<n then wo c else-1
theorem Au (c:Int) (n:Nat):pT c (n+1)=if wo c=n then(n:Int)else pT c n:=by
 unfold pT
 by_cases h:wo c=n
 ·rw[dP h,dP (by omega)];exact h
 ·rw[dN h]
  by_cases q:wo c<n
  ·rw[dP q,dP (by omega)]
  ·rw[dN q,dN (by omega)]
def RefDec (s:ByteArray) (w:World) (e:Ending) (w':World):Prop:=
 ((nM (a_ s)= -1∧e= .returned (.tuple #[.string ⟨(pS (g_ (a_ s))).toArray⟩,.int .i64 0,.int .i64 (-1)]))∨
  (0≤nM (a_ s)∧e= .returned (.tuple #[.string ⟨#[]⟩,.int .i64 20,.int .i64 (nM (a_ s))])))∧Below w.heap.size w w'
theorem RefDec.at {s:ByteArray} {w w':World} {p:Int} (h:nM (a_ s)=p) (h0:0≤p) (q:Below w.heap.size w w'):RefDec s w (.returned (.tuple #[.string ⟨#[]⟩,.int .i64 20,.int .i64 p])) w':=
 ⟨.inr ⟨by omega,by rw[h]⟩,q⟩
theorem Cr (s:ByteArray) (w:World) (q:s.size≤9223372036854775807) (h:65536<s.size):
  Calls prog 40 #[.string s] w fun e w'=>e= .returned (.tuple #[.string ⟨#[]⟩,.int .i64 2,.int .i64 (-1)])∧w=w':=by
 go_enter func40,ntmps40
 go_wp2
 go_ret3
 exact⟨rfl,rfl⟩
theorem LD (s:ByteArray) (w:World) (h:s.size≤65536):
  Calls prog 40 #[.string s] w (RefDec s w):=by
 have hI:(s.size:Int)≤65536:=by omega
 have HL:=Hz (a_ s)
 rw[j_]at HL
 have HG:=dM (JI (a_ s))
 have aC:=dM (Kn (a_ s))
 obtain⟨q,F⟩:=yaa (o7 (a_ s))
 have HF:Hid (nM (a_ s)=if q<s.size then(q:Int)else if s.size%4=0 then-1 else if s.size%4=1 then(s.size:Int)else if yJ (a_ s)=0 then-1 else(s.size:Int)-1):=dM (by
  unfold nM;rw[←F,j_])
 rw[←F]at HL HG aC
 clear F
 obtain⟨i0,aQ,aG,aF,aE⟩:=gw su
 have ae:(w.alloc (.cells #[] 5)).ownsRow w.heap.size 5 1 (.slice (some ⟨w.heap.size,0,none⟩) 0 0) 0 []:=iN w #[] 0 (dQ _) (by unfold maxLen;omega) rfl
 have Z:=dM ae
 clear ae
 go_enter func40,ntmps40
 go_wp2
 go_loopw[5,6] (fun v i wr=> ∃k:Nat,k≤q∧i= .int .i64 k∧wr.ownsRow w.heap.size 5 1 v (6*k) (c_ .u8 (zG (a_ s) (6*k)))∧Below w.heap.size w wr) (fun _ i _=>q-(intOf i).toNat)
 case atStart=>exact⟨0,by omega,rfl,Z.out,nO _ _⟩
 case round=>
  clear Z
  obtain⟨i,hi,rfl,M,N⟩:=hrel
  have D:=dM M
  have aa:=dM N
  clear M N
  by_cases V:i<s.size
  ·have ak:(i:Int)<(s.size:Int):=by omega
   have hb:(s[i].toNat:Int)≤255:=by have:=s[i].toNat_lt;omega
   have aJ:=pK (s[i].toNat:Int)
   have HC:Hid ((s[i].toNat:Int)=(a_ s).getD i 0):=dM (o_ s i V).symm
   go_wp2
   obtain⟨Q,aI⟩: ∃Q:World,Q=wr:=⟨_,rfl⟩
   rw[←aI]at D aa⊢
   clear aI
   have aS:=dM (And.intro D.out aa.out)
   go_loopw[7,8] (fun v k wr=> ∃n:Nat,n≤64∧k= .int .i64 n∧v= .int .i64 (pT (s[i].toNat:Int) n)∧ ∃m,wr=Q.drewN m) (fun _ k _=>64-(intOf k).toNat)
   case atStart=>exact⟨0,by omega,rfl,by unfold pT;rw[dN (by omega)],0,rfl⟩
   case round=>
    obtain⟨n,hn,rfl,rfl,m,rfl⟩:=hrel
    by_cases bm:n<64
    ·have hS:=Au (s[i].toNat:Int) n
     have L:=dM hS
     clear hS
     have aZ:=FJ n (by omega)
     have aA:=dM (fun(W:World)=>(MS n W (by omega) (by omega)).mono fun _ _ (hh:_∧_)=>(⟨hh.1,hh.2.symm⟩:_∧_))
     have az:(sg n==(s[i].toNat:Int))=decide (wo (s[i].toNat:Int)=n):=by
      rw[iA,gm,eb];exact Ad _ _ (by omega) (by omega)
     obtain⟨y,hy⟩:=yaa (sg n)
     rw[←hy]at aA az
     obtain⟨p0,aw⟩:=yaa (pT (s[i].toNat:Int) n)
     rw[←aw]at L⊢
     obtain⟨R,U⟩:=yaa (Q.drewN m)
     rw[←U]
     have aR:=dM U
     clear U hy aZ aw
     by_cases F:wo (s[i].toNat:Int)=n
     ·rw[ec F]at az
      have B:Hid (pT (s[i].toNat:Int) (n+1)=n):=dM (by rw[L.out,dP F])
      clear F L
      go_wp2
      go_quiet ((go_at_call 71;exact eG (aA.out _)))
      go_wp2
      go_roundw
      case rel=>exact⟨n+1,by omega,by go_num,by rw[B.out],m+nq,by rw[aR.out,j7]⟩
      case measure=>simp[intOf];omega
     ·rw[dT F]at az
      have B:Hid (pT (s[i].toNat:Int) (n+1)=p0):=dM (by rw[L.out,dN F])
      clear F L
      go_wp2
      go_quiet ((go_at_call 71;exact eG (aA.out _)))
      go_wp2
      go_roundw
      case rel=>exact⟨n+1,by omega,by go_num,by rw[B.out],m+nq,by rw[aR.out,j7]⟩
      case measure=>simp[intOf];omega
    ·obtain rfl:n=64:=by omega
     have Y:Hid ((Q.drewN m).ownsRow w.heap.size 5 1 u5 (6*i) (c_ .u8 (zG (a_ s) (6*i)))∧Below w.heap.size w (Q.drewN m)):=dM ⟨aS.out.1,rG aS.out.2 m⟩
     obtain⟨R,U⟩:=yaa (Q.drewN m)
     rw[←U]at Y⊢
     clear U
     by_cases aj:wo (s[i].toNat:Int)=64
     ·have aP:i=q:=by
       rcases eX i q with h|h
       ·have:=HG.out i h
        rw[←HC.out]at this
        exact absurd aj this
       ·omega
      have B:Hid (nM (a_ s)=(i:Int)):=dM (by rw[HF.out,dP (by omega)];omega)
      have ad:pT (s[i].toNat:Int) 64= -1:=by unfold pT;rw[dN (by omega)]
      rw[ad]
      clear ad aj aP
      go_wp2
      go_ret3
      exact RefDec.at B.out (by omega) Y.out.2
     ·have aP:i<q:=by
       rcases eX i q with h|h
       ·exact h
       ·have:=aC.out (by rw[j_];omega)
        rw[show q=i by omega,←HC.out]at this
        exact absurd this aj
      have ad:pT (s[i].toNat:Int) 64=wo (s[i].toNat:Int):=by unfold pT;rw[dP (by omega)]
      rw[ad]
      obtain⟨x,I⟩:=yaa (wo (s[i].toNat:Int))
      have HX:Hid (x=wo ((a_ s).getD i 0)):=dM (by rw[←HC.out];exact I)
      rw[←I]at aJ aj⊢
      obtain⟨x0,x1⟩:=aJ
      replace x1:x<64:=by omega
      clear ad aj I
      have bh: ¬x<0:=by omega
      go_wp2
      obtain⟨aD,aH⟩:=yaa R
      rw[←aH]at Y⊢
      clear aH
      go_loopw[5,9] (fun v k wr=> ∃t:Nat,t≤6∧k= .int .i64 (5-(t:Int))∧wr.ownsRow w.heap.size 5 1 v (6*i+t) (c_ .u8 (zG (a_ s) (6*i+t)))∧Below w.heap.size w wr) (fun _ k _=>(intOf k+1).toNat)
      case atStart=>exact⟨0,by omega,rfl,Y.out.1,Y.out.2⟩
      case round=>
       clear Y
       obtain⟨t,ht,rfl,M,N⟩:=hrel
       have aB:=dM M
       have E:=dM N
       clear M N
       by_cases bk:t<6
       ·have bo:(0:Int)≤5-(t:Int):=by omega
        have br:0≤x/2^(5-t):=Int.ediv_nonneg x0 (by exact Int.pow_nonneg (by decide))
        have bq:x/2^(5-t)≤63:=Int.le_trans (Int.ediv_le_self _ x0) (by omega)
        have ar:Hid (c_ .u8 (zG (a_ s) (6*i+t))++[.int .u8 (x/2^(5-t)%2)]=c_ .u8 (zG (a_ s) (6*i+(t+1)))):=dM (by
         rw[show 6*i+(t+1)=(6*i+t)+1 by omega,zG,vX,nK,show(6*i+t)/6=i by omega,show(6*i+t)%6=t by omega,←HX.out];rfl)
        have av:w.heap.size≤wr.heap.size:=E.out.size
        go_wp2_with(first
         |(at_builtin;refine fm _ rfl (.tmp 44) (.tmp 51) 46 rfl w.heap.size 5 i0 (.int .u8 0) 1 1 ee aQ aG aF aE rfl (by decide) _ (6*i+t) _ rfl (aB.out.alloc _) ⟨wr.heap.size,0,none⟩ 1 1 [.int .u8 (x/2^(5-t)%2)] rfl rfl ?c1 ?c2 ?c3 ?c4 ?c5 ?_))
        case c1=>exact fS _ _ _
        case c2=>intro u hu;rw[eh.1 hu];rfl
        case c3=>unfold maxLen;omega
        case c4=>omega
        case c5=>simp;omega
        intro v' w' af ag _
        have HW:Hid (w'.ownsRow w.heap.size 5 1 v' (6*i+(t+1)) (c_ .u8 (zG (a_ s) (6*i+(t+1))))∧Below w.heap.size w w'):=dM ⟨by rw[←ar.out];exact af,(E.out.alloc av _).grown ag (by simp;omega) (rF aB.out)⟩
        clear af ag
        go_wp2_with fail
        go_roundw
        case rel=>exact⟨t+1,by omega,by rw[show((t+1:Nat):Int)=(t:Int)+1 by omega,show(5:Int)-((t:Int)+1)=5-(t:Int)-1 by omega],HW.out.1,HW.out.2⟩
        case measure=>simp[intOf];omega
       ·obtain rfl:t=6:=by omega
        go_wp2
        go_roundw
        case rel=>exact⟨i+1,by omega,by go_num,by rw[show 6*(i+1)=6*i+6 by omega];exact aB.out,E.out⟩
        case measure=>simp[intOf];omega
  ·have aL: ¬q<s.size:=by omega
   have ak: ¬(i:Int)<(s.size:Int):=by omega
   obtain rfl:i=s.size:=by omega
   obtain⟨A,c,rfl,hc,aM⟩:=H9 D.out (nh _ _)
   have aq: ∀k,some k=(Value.slice A (6*s.size) c).ownBlock→k<wr.heap.size:=fun k hk=>(D.out.lt k hk.symm).2
   have au:=dM aM
   have bg:Hid (Good (a_ s)):=dM fun k hk=>HG.out k (by rw[j_]at hk;omega)
   clear D hc aM aq HG aC
   by_cases m1:s.size%4=1
   ·have B:Hid (nM (a_ s)=(s.size:Int)):=dM (by rw[HF.out,dN aL,dN (by omega),dP m1])
    have b1:(((s.size:Int)%4)==1)=true:=by simp;omega
    clear m1
    go_wp2
    go_ret3
    exact RefDec.at B.out (by omega) aa.out
   ·have aW:Hid (nM (a_ s)=if s.size%4=0 then-1 else if yJ (a_ s)=0 then-1 else(s.size:Int)-1):=dM (by
     rw[HF.out,dN aL]
     split
     ·rfl
     ·first|rfl|rw[dN m1])
    have b1:(((s.size:Int)%4)==1)=false:=by simp;omega
    have aT:=dM m1
    have ae:(wr.alloc (.cells #[] 5)).ownsRow wr.heap.size 5 1 (.slice (some ⟨wr.heap.size,0,none⟩) 0 0) 0 []:=iN wr #[] 0 (dQ _) (by unfold maxLen;omega) rfl
    have Z:=dM ae
    clear ae m1 HF
    obtain⟨u,hu⟩:=yaa (6*s.size)
    have O:=dM hu
    rw[←hu]at au⊢
    have bi:u≤400000:=by omega
    clear hu
    obtain⟨w0,aK⟩:=yaa wr
    rw[←aK]at aa au Z⊢
    clear aK
    go_wp2
    go_loopw[10,12] (fun v i wr=> ∃j:Nat,j≤u/8∧i= .int .i64 ((8*j:Nat):Int)∧wr.ownsRow w0.heap.size 5 1 v j (c_ .u8 (pp (a_ s) j))∧Below w0.heap.size w0 wr) (fun _ i _=>u-(intOf i).toNat)
    case atStart=>exact⟨0,by omega,rfl,Z.out,nO _ _⟩
    case round=>
     clear Z
     obtain⟨j,hj,rfl,M,N⟩:=hrel
     have D:=dM M
     have E:=dM N
     clear M N
     obtain⟨a,ha⟩:=yaa (8*j)
     have HA:=dM ha
     rw[←ha]
     have bb:a≤u:=by omega
     by_cases V:j<u/8
     ·have ak:(a:Int)<(u:Int)/8*8:=by omega
      have bt:a+8≤u:=by omega
      obtain⟨b,o,rfl,_,ah⟩:=au.out.at (by rw[nh];omega)
      have aX:Hid (∀k,a+k<u→w0.cell? ⟨b,o+(a+k),none⟩=some (.int .u8 (nK (a_ s) (a+k)))):=dM fun k hk=>by
       rw[ah (a+k) (by rw[nh];omega),dR,KK _ _ _ hk];rfl
      have a8:b<w0.heap.size:=nc (aX.out 0 (by omega))
      clear ah ha
      go_wp2
      obtain⟨G,ab⟩:=yaa wr
      rw[←ab]at D E⊢
      clear ab
      go_loop [13,14] (fun n k=> ∃t:Nat,t≤8∧k= .int .i64 t∧n= .int .u8 (ox (a_ s) a t)) (fun _ k=>8-(intOf k).toNat)
      case atStart=>exact⟨0,by omega,rfl,rfl⟩
      case round=>
       obtain⟨t,ht,rfl,rfl⟩:=hrel
       have aq:=zz (a_ s) a t
       have ap:0≤ox (a_ s) a t∧ox (a_ s) a t≤255:=by
        have:t=0∨t=1∨t=2∨t=3∨t=4∨t=5∨t=6∨t=7∨t=8:=by omega
        rcases this with rfl|rfl|rfl|rfl|rfl|rfl|rfl|rfl|rfl<;>constructor<;>omega
       by_cases bj:t<8
       ·have bc:ox (a_ s) a t≤127:=by
         have:t=0∨t=1∨t=2∨t=3∨t=4∨t=5∨t=6∨t=7:=by omega
         rcases this with rfl|rfl|rfl|rfl|rfl|rfl|rfl|rfl<;>omega
        have ai:=sJ (a_ s) (a+t)
        have ao:=(E.out.cell (p:=⟨b,o+(a+t),none⟩) a8).trans (aX.out t (by omega))
        have L:Hid (ox (a_ s) a (t+1)=2*ox (a_ s) a t+nK (a_ s) (a+t)):=dM rfl
        obtain⟨x,I⟩:=yaa (ox (a_ s) a t)
        obtain⟨y,hy⟩:=yaa (nK (a_ s) (a+t))
        rw[←I]at L ap bc⊢
        rw[←hy]at L ai ao
        obtain⟨x0,_⟩:=ap
        obtain⟨y0,y1⟩:=ai
        clear aq I hy
        go_wp2
        exact⟨⟨t+1,by omega,by go_num,by rw[L.out]⟩,by simp[intOf];omega⟩
       ·obtain rfl:t=8:=by omega
        have ar:Hid (c_ .u8 (pp (a_ s) j)++[.int .u8 (ox (a_ s) a 8)]=c_ .u8 (pp (a_ s) (j+1))):=dM (by rw[pp,vX,HA.out];rfl)
        obtain⟨x,I⟩:=yaa (ox (a_ s) a 8)
        rw[←I]at ar ap⊢
        obtain⟨x0,x1⟩:=ap
        have av:w0.heap.size≤G.heap.size:=E.out.size
        clear aq I
        go_wp2_with(first
         |(at_builtin;refine fm _ rfl (.tmp 82) (.tmp 84) 46 rfl w0.heap.size 5 i0 (.int .u8 0) 1 1 ee aQ aG aF aE rfl (by decide) _ j _ rfl (D.out.alloc _) ⟨G.heap.size,0,none⟩ 1 1 [.int .u8 x] rfl rfl ?d1 ?d2 ?d3 ?d4 ?d5 ?_))
        case d2=>rfl
        case d3=>unfold maxLen;omega
        case d4=>omega
        case d5=>omega
        intro v' w' af ag _
        have HW:Hid (w'.ownsRow w0.heap.size 5 1 v' (j+1) (c_ .u8 (pp (a_ s) (j+1)))∧Below w0.heap.size w0 w'):=dM ⟨by rw[←ar.out];exact af,(E.out.alloc av _).grown ag (by simp;omega) (rF D.out)⟩
        clear af ag
        go_wp2_with fail
        go_roundw
        case rel=>exact⟨j+1,by omega,by rw[show 8*(j+1)=a+8 by have:=HA.out;omega];go_num,HW.out.1,HW.out.2⟩
        case measure=>simp[intOf];omega
     ·have ak: ¬(a:Int)<(u:Int)/8*8:=by omega
      have aO:j=u/8:=by omega
      have HO:=D.out
      rw[aO,show pp (a_ s) (u/8)=g_ (a_ s)by rw[O.out,←j_ s,mC];exact ur _ bg.out]at HO
      obtain⟨A2,c2,rfl,a7,aN⟩:=H9 HO (by rw[Ga,j_,O.out,mC])
      have aU:=dM aN
      clear ha aO HO a7 aN D HA
      obtain⟨g,hg⟩:=yaa (u/8*8)
      have aV:=dM hg
      have bp:(u:Int)/8*8=(g:Int):=by omega
      have a6:g≤u:=by omega
      have bn: ¬(a:Int)<(g:Int):=by omega
      obtain⟨n8,ax⟩:=yaa (u/8)
      have bf:=dM ax
      rw[←ax]
      obtain⟨G,ab⟩:=yaa wr
      rw[←ab]at aU E⊢
      have aY:Hid (Below w.heap.size w G):=dM (aa.out.trans (E.out.mono aa.out.size))
      clear ab hg ax ak bb
      go_wp2
      go_loop [15] (fun i=> ∃p:Nat,g≤p∧p≤u∧i= .int .i64 p∧ ∀r,g≤r→r<p→nK (a_ s) r=0) (fun i=>u-(intOf i).toNat)
      case atStart=>exact⟨g,dQ _,a6,rfl,fun r h1 h2=>by omega⟩
      case round=>
       obtain⟨p,aw,hp,rfl,hz⟩:=hrel
       have HZ:=dM hz
       clear hz
       by_cases V:p<u
       ·obtain⟨b,o,rfl,_,ah⟩:=au.out.at (by rw[nh];omega)
        have ay:w0.cell? ⟨b,o+p,none⟩=some (.int .u8 (nK (a_ s) p)):=by
         rw[ah p (by rw[nh];exact V),dR,KK _ _ _ V];rfl
        have ao:=(E.out.cell (p:=⟨b,o+p,none⟩) (nc ay)).trans ay
        have ai:=sJ (a_ s) p
        clear ah ay
        by_cases X:nK (a_ s) p=0
        ·have bd:Hid (∀r,g≤r→r<p+1→nK (a_ s) r=0):=dM fun r h1 h2=>by
          rcases eX r p with h|h
          ·exact HZ.out r h1 h
          ·obtain rfl:r=p:=by omega
           exact X
         rw[X]at ao
         clear X ai
         go_wp2
         exact⟨⟨p+1,by omega,by omega,by go_num,bd.out⟩,by simp[intOf];omega⟩
        ·have am:=CX (a_ s) p (by rw[j_];have:=O.out;have:=aV.out;omega) (by rw[j_,←O.out];exact V) X
         rw[j_]at am
         have B:Hid (nM (a_ s)=(s.size:Int)-1):=dM (by rw[aW.out,dN am.1,dN (am.2 aT.out)])
         have bl:1≤s.size:=by have:=O.out;omega
         have ba:(nK (a_ s) p !=0)=true:=by simpa using X
         obtain⟨y,hy⟩:=yaa (nK (a_ s) p)
         rw[←hy]at ao ba ai
         clear X am hy
         go_wp2
         go_ret3
         exact RefDec.at B.out (by omega) aY.out
       ·obtain rfl:p=u:=by omega
        have B:Hid (nM (a_ s)= -1):=dM (by
         rw[aW.out]
         split
         ·rfl
         ·rw[dP]
          refine AK (a_ s) ?_ fun r h1 h2=>HZ.out r (by rw[j_]at h1;have:=O.out;have:=aV.out;omega) (by rw[j_,←O.out]at h2;exact h2)
          rw[j_];have:=aT.out;omega)
        have bs:=zK A2 (g_ (a_ s)) n8 c2 G (by rw[bf.out,Ga,j_,O.out,mC]) aU.out
        go_wp2
        go_ret3
        exact⟨.inl ⟨B.out,rfl⟩,aY.out⟩
end Go.Proofs.YtceddodfddlncaaGreatDoor
