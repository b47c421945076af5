
import Derived.RangeFuncNested
import Derived.RangeFuncBound
import Derived.RangeFuncCalls
import Derived.RangeFuncLeaves
import Derived.Shelf.RegionOpen
import Derived.OwnWalkIn
import Derived.TacticsInMore
import Derived.LoopNIn
import Derived.LoopIn
import Derived.RangeFuncBox
import Derived.Lib.Builder
import Derived.Lib.AppendStr
import Derived.Lib.UnsafeStr
import Derived.Lib.Slices
import Derived.Lib.Walk
import Derived.Laws.Externs
import Derived.Test.YtceddodfddlncaaGreatDoorJv24
set_option maxRecDepth 100000
set_option maxHeartbeats 16000000
set_option linter.all false
namespace Go.Proofs.YtceddodfddlncaaGreatDoor
open Go Go.RowKit Tryz
theorem yn (B q:Nat) (w:World):
  CallsD prog 127 #[.pointer (some ⟨B,0,none⟩),.pointer (some ⟨q,0,none⟩)] .returning w fun e D w'=>e= .returned (.tuple #[])∧D= .returning∧w'=w:=by
 refine callsD_of_wpS func127 rfl fun F cs E=> ?_
 apply wpS_seq
 apply wpS_region
 simp[wpOpsS,go_sem,recoverD,E,ntmps127,Exit.thenS]
 refine wpS_of_wp ?_
 rw[show(#[.pointer (some ⟨B,0,none⟩),.pointer (some ⟨q,0,none⟩)]++(Array.replicate 17 undef).setIfInBounds 3 Value.nilIface)= #[.pointer (some ⟨B,0,none⟩),.pointer (some ⟨q,0,none⟩),undef,undef,undef,.nilIface,undef,undef,undef,undef,undef,undef,undef,undef,undef,undef,undef,undef,undef]from rfl]
 go_wp2
 refine⟨rfl,.returning,?_,_,kZ rfl _ _ _,rfl,rfl,rfl⟩
 cases F
 simp_all
def pR (l:List Int):J×Int×Int:=
 if(nj l 8 (d_ l 0) 256).2.2.2≠0 then(zeroJ,(nj l 8 (d_ l 0) 256).2.2.2,((nj l 8 (d_ l 0) 256).2.1:Int))
 else if(nj l 8 (d_ l 0) 256).2.1<l.length then(zeroJ,50,((nj l 8 (d_ l 0) 256).2.1:Int))
 else((nj l 8 (d_ l 0) 256).1,0, -1)
def yz (W:World) (r:J×Int×Int) (e:Ending) (w':World):Prop:=
 (r.2.1=0∧ ∃v,e= .returned (.tuple #[v,.nilIface])∧RepS w' (fun b=>W.heap.size≤b) r.1 v∧Below W.heap.size W w')∨
 (r.2.1≠0∧ ∃b,e= .returned (.tuple #[.agg #[.int .i64 0,.int .i64 0,.string ⟨#[]⟩,.slice none 0 0,.slice none 0 0],.iface 188 (.pointer (some ⟨b,0,none⟩))])∧w'.cell? ⟨b,0,none⟩=some (.int .i64 r.2.2)∧w'.cell? ⟨b,1,none⟩=some (.iface 54 (.int .i64 r.2.1))∧W.heap.size≤b∧Below W.heap.size W w')
theorem sH {W q B:World} {E D:Nat} {p er:Int} (h:Below W.heap.size W q) (N:yF q B E D p er) (Q:W.heap.size≤E) (O:W.heap.size≤D):Below W.heap.size W B:=by
 obtain⟨_,_,_,_,I,G,F,L,far⟩:=N
 have h1:=h.size
 exact⟨I.trans h.os,G.trans h.tape,F.trans h.output,dV h1 L,fun k M=>(far k (by omega) (by omega) (by omega)).trans (h.block k M)⟩
theorem EC (s:ByteArray) (hs:s.size≤10000) (W:World) (hm:Marks W) (ht:ErrTab W) (hv:BL s (W.heap.size+2) 8):
  Calls prog 95 #[.string s] W (yz W (pR (a_ s))):=by
 have aZ:=dM (j_ s)
 have a7: ∀(fn:Fn) (first aO:Array Value) (w:World),(Instr.makeFunc fn first aO).run prog w= .ok (.func fn first aO) w:=fun _ _ _ _=>rfl
 obtain⟨Wr,ad⟩: ∃x,x=((W.alloc (.cells zeros5.toArray 63)).alloc (.cells #[.nilIface] 26)).alloc (.cells #[.string s,.int .i64 0,.int .i64 0] 192):=⟨_,rfl⟩
 have g1:=dO W (.cells zeros5.toArray 63) none
 have g2:=dO (W.alloc (.cells zeros5.toArray 63)) (.cells #[.nilIface] 26) none
 have g3:=dO ((W.alloc (.cells zeros5.toArray 63)).alloc (.cells #[.nilIface] 26)) (.cells #[.string s,.int .i64 0,.int .i64 0] 192) none
 have aN:Blk Wr W.heap.size 63 zeros5:=by rw[ad];exact((qb W rfl zeros5 _).grownN g2).grownN g3
 have aM:Blk Wr (W.heap.size+1) 26 [.nilIface]:=by rw[ad];exact(qb _ (by simp) [.nilIface] _).grownN g3
 have aJ:Rdr Wr (W.heap.size+2) s (0:Nat) (256-256):=by rw[ad];exact qb _ (by simp) [.string s,.int .i64 0,.int .i64 0] _
 have ae:W.grownBy Wr none:=by rw[ad];exact(g1.trans g2).trans g3
 have ao:Below W.heap.size W Wr:=⟨ae.os,ae.tape,ae.output,ae.size,fun i hi=>ae.block i hi (by simp)⟩
 have aE:Wr.heap.size=W.heap.size+3:=by rw[ad];simp
 have aj:=hv 0 256 Wr (eN _) (by decide) (by decide) aJ ⟨hm.below ao,ht.below ao,by have:=hm.lt;omega,by have:=nc ht;show W.heap.size+2≠0;simp at this;omega⟩
 have M:=dM ao
 have aT:=dM aN
 have aS:=dM aM
 have aw:=dM aE
 obtain⟨r,hr⟩:=yaa (pR (a_ s))
 rw[←hr]
 unfold pR at hr
 obtain⟨R,hR⟩:=yaa (nj (a_ s) 8 (d_ (a_ s) 0) 256)
 rw[←hR]at aj hr
 rw[aZ.out]at hr
 have aP:=dM hr
 unfold ValPost at aj
 have HV:=dM aj
 have aV:=dM ad
 clear g1 g2 g3 aN aM aJ ae ao aE aj hv hm ht hR ad hr
 go_enter_defers func95,ntmps95
 go_wp2_with fail
 rw[show((W.alloc (.cells #[.int .i64 0,.int .i64 0,.string ⟨#[]⟩,.slice none 0 0,.slice none 0 0] 63)).alloc (.cells #[.nilIface] 26)).alloc (.cells #[.string s,.int .i64 0,.int .i64 0] 192)=Wr from aV.out.symm]
 refine HV.out.mono ?_
 rintro e G (⟨he,v,q,rfl,ak,hq,aF,ab,aI⟩|⟨he,rfl,ab⟩)
 ·have ap:Hid (r=if R.2.1<s.size then(zeroJ,50,(R.2.1:Int))else(R.1,0, -1)):=dM (aP.out.trans (dN (fun h=>h he)))
  obtain⟨vk,A,Z,rfl, -,⟨K9,Y,rfl, -, -⟩, -, -⟩:=ak.open
  obtain⟨X,aD⟩: ∃a,a=R.1.kind:=⟨_,rfl⟩
  obtain⟨V,aC⟩: ∃a,a=R.1.n:=⟨_,rfl⟩
  obtain⟨U,aB⟩: ∃a,a=R.1.s:=⟨_,rfl⟩
  obtain⟨Q,aA⟩: ∃a,a=R.1.l.length:=⟨_,rfl⟩
  obtain⟨O,az⟩: ∃a,a=R.1.k.length:=⟨_,rfl⟩
  rw[←aD,←aC,←aB,←aA,←az]at ak⊢
  have aY:=dM ak
  have L:Blk G W.heap.size 63 zeros5:=aT.out.grown ab (by intro e;injection e with e;omega)
  obtain⟨b0,b1,b2,b3,b4⟩:G.cell? ⟨W.heap.size,0,none⟩=some (.int .i64 0)∧G.cell? ⟨W.heap.size,1,none⟩=some (.int .i64 0)∧G.cell? ⟨W.heap.size,2,none⟩=some (.string ⟨#[]⟩)∧G.cell? ⟨W.heap.size,3,none⟩=some (.slice none 0 0)∧G.cell? ⟨W.heap.size,4,none⟩=some (.slice none 0 0):=⟨L.cell 0,L.cell 1,L.cell 2,L.cell 3,L.cell 4⟩
  obtain⟨z0,z1,z2,z3,z4⟩:G.frozen? ⟨W.heap.size,0,none⟩=false∧G.frozen? ⟨W.heap.size,1,none⟩=false∧G.frozen? ⟨W.heap.size,2,none⟩=false∧G.frozen? ⟨W.heap.size,3,none⟩=false∧G.frozen? ⟨W.heap.size,4,none⟩=false:=⟨L.frozen 0,L.frozen 1,L.frozen 2,L.frozen 3,L.frozen 4⟩
  have HF:=dM (BP L (.int .i64 X) (.int .i64 V) (.string U) (.slice A Q Z) (.slice K9 O Y))
  have aH:=Blk.grown aI HF.out.2 (by intro e;injection e with e;omega)
  have au:=wn (W.heap.size+2) s q _ _ aH hq (by omega)
  rw[aF]at au
  have aq:=dM au
  have N:=dM ab
  have aR:=dM (show Blk G (W.heap.size+1) 26 [.nilIface]from aS.out.grown ab (by intro e;injection e with e;omega))
  clear aD aC aB aA az ak L aH au ab aI he aF
  by_cases am:R.2.1<s.size
  ·have af:=dM (ap.out.trans (dP am))
   have ar:((R.2.1:Nat):Int)<(s.size:Int):=by omega
   obtain⟨P,hP⟩:=yaa R.2.1
   rw[←hP]at aq af ar
   clear am hP ap
   go_wp2_with fail
   refine aq.out.mono ?_
   rintro e B ⟨rfl,aa,ah⟩
   have ag:Hid (Below W.heap.size W B):=dM (((M.out.grown N.out M.out.size (by intro k D;injection D with D;omega)).grown HF.out.2 (dV M.out.size N.out.size) (by intro k D;injection D with D;omega)).grown aa (dV (dV M.out.size N.out.size) HF.out.2.size) (by intro k D;injection D with D;omega))
   have I:=Blk.grown HF.out.1 aa (by intro e;injection e with e;omega)
   have ai:Hid (Blk B (W.heap.size+1) 26 [.nilIface]):=dM ((aR.out.grown HF.out.2 (by intro e;injection e with e;omega)).grown aa (by intro e;injection e with e;omega))
   have aQ:=dM I
   obtain⟨⟨c0,c1,c2⟩,f0,f1,f2⟩:=Rdr.cells ah
   have HC:=dM (MD W.heap.size (W.heap.size+1) (P:Int) 50 B _ _ _ _ _ aQ.out ai.out (by omega))
   clear aa ah I
   go_wp2_with(go_at_call 130;(with_reducible refine(wu _ _ _).mono ?_);rintro e w' ⟨rfl,rfl⟩)
   refine leaves_cons (f:=127) (args:= #[.pointer (some ⟨W.heap.size,0,none⟩),.pointer (some ⟨W.heap.size+1,0,none⟩)]) (by simp) (by simp[go_sem]) ?_
   refine HC.out.mono ?_
   rintro e u' E ⟨rfl,rfl,hc⟩
   have ay:=dM (sH ag.out hc (dQ _) (by omega))
   have ax:Hid (W.heap.size≤B.heap.size+1):=dM (by have h1:=ag.out.size;omega)
   obtain⟨F,k3,p1,p2,_⟩:=hc
   obtain⟨y0,y1,y2,y3,y4⟩:E.cell? ⟨W.heap.size,0,none⟩=some (.int .i64 0)∧E.cell? ⟨W.heap.size,1,none⟩=some (.int .i64 0)∧E.cell? ⟨W.heap.size,2,none⟩=some (.string ⟨#[]⟩)∧E.cell? ⟨W.heap.size,3,none⟩=some (.slice none 0 0)∧E.cell? ⟨W.heap.size,4,none⟩=some (.slice none 0 0):=⟨F.cell 0,F.cell 1,F.cell 2,F.cell 3,F.cell 4⟩
   have d0:E.cell? ⟨W.heap.size+1,0,none⟩=some (.iface 188 (.pointer (some ⟨B.heap.size+1,0,none⟩))):=k3.cell 0
   simp[Leaves,settle,results,results95,go_sem,y0,y1,y2,y3,y4,d0]
   rw[af.out]
   exact .inr ⟨show(50:Int)≠0 by decide,_,rfl,p1,p2,ax.out,ay.out⟩
  ·have af:=dM (ap.out.trans (dN am))
   have ar: ¬((R.2.1:Nat):Int)<(s.size:Int):=by omega
   obtain⟨P,hP⟩:=yaa R.2.1
   rw[←hP]at aq ar
   clear am hP ap
   go_wp2_with fail
   refine aq.out.mono ?_
   rintro e B ⟨rfl,aa,ah⟩
   have ag:Hid (Below W.heap.size W B):=dM (((M.out.grown N.out M.out.size (by intro k D;injection D with D;omega)).grown HF.out.2 (dV M.out.size N.out.size) (by intro k D;injection D with D;omega)).grown aa (dV (dV M.out.size N.out.size) HF.out.2.size) (by intro k D;injection D with D;omega))
   have I:=Blk.grown HF.out.1 aa (by intro e;injection e with e;omega)
   have ai:Hid (Blk B (W.heap.size+1) 26 [.nilIface]):=dM ((aR.out.grown HF.out.2 (by intro e;injection e with e;omega)).grown aa (by intro e;injection e with e;omega))
   have aQ:=dM I
   obtain⟨⟨c0,c1,c2⟩,f0,f1,f2⟩:=Rdr.cells ah
   obtain⟨a0,a1,a2,a3,a4⟩:B.cell? ⟨W.heap.size,0,none⟩=some (.int .i64 X)∧B.cell? ⟨W.heap.size,1,none⟩=some (.int .i64 V)∧B.cell? ⟨W.heap.size,2,none⟩=some (.string U)∧B.cell? ⟨W.heap.size,3,none⟩=some (.slice A Q Z)∧B.cell? ⟨W.heap.size,4,none⟩=some (.slice K9 O Y):=⟨I.cell 0,I.cell 1,I.cell 2,I.cell 3,I.cell 4⟩
   obtain⟨y0,y1,y2,y3,y4⟩:B.frozen? ⟨W.heap.size,0,none⟩=false∧B.frozen? ⟨W.heap.size,1,none⟩=false∧B.frozen? ⟨W.heap.size,2,none⟩=false∧B.frozen? ⟨W.heap.size,3,none⟩=false∧B.frozen? ⟨W.heap.size,4,none⟩=false:=⟨I.frozen 0,I.frozen 1,I.frozen 2,I.frozen 3,I.frozen 4⟩
   have d0:B.cell? ⟨W.heap.size+1,0,none⟩=some .nilIface:=ai.out.cell 0
   have d1:B.frozen? ⟨W.heap.size+1,0,none⟩=false:=ai.out.frozen 0
   have aX:=dM (RepS.keeps (S:=fun b=>Wr.heap.size≤b) (T:=fun b=>W.heap.size+3≤b) ((Keeps.grown HF.out.2 (fun b (h:_≤b) e=>by injection e with e;have:=aw.out;omega)).trans (Keeps.grown aa (fun b (h:_≤b) e=>by injection e with e;have:=aw.out;omega))) (fun b (h:_≤b) _=>show W.heap.size+3≤b by have:=aw.out;omega) _ _ aY.out)
   have s5:=BP I (.int .i64 X) (.int .i64 V) (.string U) (.slice A Q Z) (.slice K9 O Y)
   have g8:=ou (((((B.setCell ⟨W.heap.size,0,none⟩ (.int .i64 X)).setCell ⟨W.heap.size,1,none⟩ (.int .i64 V)).setCell ⟨W.heap.size,2,none⟩ (.string U)).setCell ⟨W.heap.size,3,none⟩ (.slice A Q Z)).setCell ⟨W.heap.size,4,none⟩ (.slice K9 O Y)) (W.heap.size+1) 0 .nilIface
   have av:Hid (Blk (((((((B.setCell ⟨W.heap.size,0,none⟩ (.int .i64 X)).setCell ⟨W.heap.size,1,none⟩ (.int .i64 V)).setCell ⟨W.heap.size,2,none⟩ (.string U)).setCell ⟨W.heap.size,3,none⟩ (.slice A Q Z)).setCell ⟨W.heap.size,4,none⟩ (.slice K9 O Y))).setCell ⟨W.heap.size+1,0,none⟩ .nilIface) W.heap.size 63 [.int .i64 X,.int .i64 V,.string U,.slice A Q Z,.slice K9 O Y]∧Blk (((((((B.setCell ⟨W.heap.size,0,none⟩ (.int .i64 X)).setCell ⟨W.heap.size,1,none⟩ (.int .i64 V)).setCell ⟨W.heap.size,2,none⟩ (.string U)).setCell ⟨W.heap.size,3,none⟩ (.slice A Q Z)).setCell ⟨W.heap.size,4,none⟩ (.slice K9 O Y))).setCell ⟨W.heap.size+1,0,none⟩ .nilIface) (W.heap.size+1) 26 [.nilIface]∧RepS (((((((B.setCell ⟨W.heap.size,0,none⟩ (.int .i64 X)).setCell ⟨W.heap.size,1,none⟩ (.int .i64 V)).setCell ⟨W.heap.size,2,none⟩ (.string U)).setCell ⟨W.heap.size,3,none⟩ (.slice A Q Z)).setCell ⟨W.heap.size,4,none⟩ (.slice K9 O Y))).setCell ⟨W.heap.size+1,0,none⟩ .nilIface) (fun b=>W.heap.size≤b) R.1 (.agg #[.int .i64 X,.int .i64 V,.string U,.slice A Q Z,.slice K9 O Y])∧Below W.heap.size W (((((((B.setCell ⟨W.heap.size,0,none⟩ (.int .i64 X)).setCell ⟨W.heap.size,1,none⟩ (.int .i64 V)).setCell ⟨W.heap.size,2,none⟩ (.string U)).setCell ⟨W.heap.size,3,none⟩ (.slice A Q Z)).setCell ⟨W.heap.size,4,none⟩ (.slice K9 O Y))).setCell ⟨W.heap.size+1,0,none⟩ .nilIface)):=dM
    ⟨s5.1.grown g8 (by intro e;injection e with e;omega),(ai.out.grown s5.2 (by intro e;injection e with e;omega)).setCell 0 .nilIface,
     RepS.keeps (S:=fun b=>W.heap.size+3≤b) (T:=fun b=>W.heap.size≤b) ((Keeps.grown s5.2 (fun b (h:_≤b) e=>by injection e with e;omega)).trans (Keeps.grown g8 (fun b (h:_≤b) e=>by injection e with e;omega))) (fun b (h:_≤b) _=>show W.heap.size≤b by omega) _ _ aX.out,
     (ag.out.grown s5.2 ag.out.size (by intro k D;injection D with D;omega)).grown g8 (dV ag.out.size s5.2.size) (by intro k D;injection D with D;omega)⟩
   clear s5 g8 aa ah I
   go_wp2
   generalize ((((((B.setCell ⟨W.heap.size,0,none⟩ (.int .i64 X)).setCell ⟨W.heap.size,1,none⟩ (.int .i64 V)).setCell ⟨W.heap.size,2,none⟩ (.string U)).setCell ⟨W.heap.size,3,none⟩ (.slice A Q Z)).setCell ⟨W.heap.size,4,none⟩ (.slice K9 O Y))).setCell ⟨W.heap.size+1,0,none⟩ .nilIface=w8 at av⊢
   obtain⟨F,k3,aG,aL⟩:=av.out
   refine leaves_cons (f:=127) (args:= #[.pointer (some ⟨W.heap.size,0,none⟩),.pointer (some ⟨W.heap.size+1,0,none⟩)]) (by simp) (by simp[go_sem]) ?_
   refine(yn W.heap.size (W.heap.size+1) w8).mono ?_
   rintro e u' E ⟨rfl,rfl,rfl⟩
   obtain⟨e0,e1,e2,e3,e4⟩:E.cell? ⟨W.heap.size,0,none⟩=some (.int .i64 X)∧E.cell? ⟨W.heap.size,1,none⟩=some (.int .i64 V)∧E.cell? ⟨W.heap.size,2,none⟩=some (.string U)∧E.cell? ⟨W.heap.size,3,none⟩=some (.slice A Q Z)∧E.cell? ⟨W.heap.size,4,none⟩=some (.slice K9 O Y):=⟨F.cell 0,F.cell 1,F.cell 2,F.cell 3,F.cell 4⟩
   have d8:E.cell? ⟨W.heap.size+1,0,none⟩=some .nilIface:=k3.cell 0
   have aW:=dM aG
   have a6:=dM aL
   clear F k3 aG aL av
   simp[Leaves,settle,results,results95,go_sem,e0,e1,e2,e3,e4,d8]
   rw[af.out]
   exact .inl ⟨rfl,_,rfl,aW.out,a6.out⟩
 ·have L:Blk G W.heap.size 63 zeros5:=aT.out.grown ab (by intro e;injection e with e;omega)
  have aK:Blk G (W.heap.size+1) 26 [.nilIface]:=aS.out.grown ab (by intro e;injection e with e;omega)
  have HC:=dM (MD W.heap.size (W.heap.size+1) (R.2.1:Nat) R.2.2.2 G _ _ _ _ _ L aK (by omega))
  have N:=dM ab
  have HE:=dM he
  have af:=dM (aP.out.trans (dP he))
  clear L aK ab he
  go_wp2
  refine leaves_cons (f:=127) (args:= #[.pointer (some ⟨W.heap.size,0,none⟩),.pointer (some ⟨W.heap.size+1,0,none⟩)]) (by simp) (by simp[go_sem]) ?_
  refine HC.out.mono ?_
  rintro e u' E ⟨rfl,rfl,hc⟩
  obtain⟨F,k3,p1,p2,o1,o2,o3,aU,far⟩:=hc
  obtain⟨b0,b1,b2,b3,b4⟩:E.cell? ⟨W.heap.size,0,none⟩=some (.int .i64 0)∧E.cell? ⟨W.heap.size,1,none⟩=some (.int .i64 0)∧E.cell? ⟨W.heap.size,2,none⟩=some (.string ⟨#[]⟩)∧E.cell? ⟨W.heap.size,3,none⟩=some (.slice none 0 0)∧E.cell? ⟨W.heap.size,4,none⟩=some (.slice none 0 0):=⟨F.cell 0,F.cell 1,F.cell 2,F.cell 3,F.cell 4⟩
  have d0:E.cell? ⟨W.heap.size+1,0,none⟩=some (.iface 188 (.pointer (some ⟨G.heap.size+1,0,none⟩))):=k3.cell 0
  have ay:Hid (Below W.heap.size W E):=dM ⟨o1.trans (N.out.os.trans M.out.os),o2.trans (N.out.tape.trans M.out.tape),o3.trans (N.out.output.trans M.out.output),dV M.out.size (dV N.out.size aU),fun k D=>by
   have h1:=M.out.size
   have h2:=N.out.size
   rw[far k (by omega) (by omega) (by omega),N.out.block k (by omega) (by intro e;injection e with e<;>omega)]
   exact M.out.block k D⟩
  have ax:Hid (W.heap.size≤G.heap.size+1):=dM (by have h1:=M.out.size;have h2:=N.out.size;omega)
  simp[Leaves,settle,results,results95,go_sem,b0,b1,b2,b3,b4,d0]
  rw[af.out]
  exact .inr ⟨HE.out,_,rfl,p1,p2,ax.out,ay.out⟩
def nN (l:List Int):J×Int×Int:=if 4096<l.length then(zeroJ,2, -1)else pR l
theorem Me (l:List Int):nN l=zJ l:=by
 unfold nN zJ pR
 split
 ·rfl
 ·split
  ·rfl
  ·split<;>rfl
def KH (W:World) (r:J×Int×Int) (e:Ending) (w':World):Prop:=
 yz W r e w'∨(r.2.1≠0∧r.2.2= -1∧e= .returned (.tuple #[.agg #[.int .i64 0,.int .i64 0,.string ⟨#[]⟩,.slice none 0 0,.slice none 0 0],.iface 54 (.int .i64 r.2.1)])∧Below W.heap.size W w')
theorem Lv {P:Program} {D:Func} {p u:Tmp} {q:TypeId} (h:D.results= #[.cell p q,.tmp u]) (tmps:Array Value) (w:World) (g:Nat) (t:TypeId) (cs:List Value) (B:TypeDesc)
  (G:tmps.getD p undef= .pointer (some ⟨g,0,none⟩)) (M:Blk w g t cs)
  (E:P.underlying q=some B) (L:B.isRow=true) (hi:(P.info? q).map (·.size)=some cs.length):
  (results D tmps).run P w= .ok (.tuple #[.agg cs.toArray,tmps.getD u undef]) w:=by
 have F:tmps[p]?.getD undef= .pointer (some ⟨g,0,none⟩):=by simpa using G
 have I:=lC w g t q cs.toArray (0,0) B M E (by cases B<;>first|rfl|cases L) (by simpa using hi)
 simp only[results,h]
 simp[fF,Result.andThen,F,asAddr,I]
theorem CB (A:Option Addr) (xs:List Int) (n c:Nat) (W:World) (hn:xs.length=n) (am:n≤9223372036854775807) (R:Bytes xs) (hl:Lies W A xs) (Y:Marks W) (V:ErrTab W) (U:n≤4096→ ∀rb,BL (toS xs) rb 8):
  Calls prog 64 #[.slice A n c] W (KH W (nN xs)):=by
 have E:=nO W (.cells zeros5.toArray 63)
 have O:=qb W rfl zeros5 63
 by_cases h:4096<n
 ·have M:Hid (nN xs=(zeroJ,2, -1)):=dM (by unfold nN;exact dP (by omega))
  have hI:(4096:Int)<(n:Int):=by omega
  have G:=dM O
  have Q:=dM E
  obtain⟨r,I⟩:=yaa (nN xs)
  rw[←I]at M⊢
  clear I E O U hl R Y V
  go_enter func64,ntmps64
  go_wp2
  refine dW (Lv results64 _ _ W.heap.size _ _ _ rfl G.out ed rfl m8) rfl ?_
  rw[M.out]
  exact .inr ⟨show(2:Int)≠0 by decide,rfl,rfl,Q.out⟩
 ·have M:Hid (nN xs=pR xs):=dM (by unfold nN;exact dN (by omega))
  have hI: ¬(4096:Int)<(n:Int):=by omega
  have ah:=zK A xs n c (W.alloc (.cells #[.int .i64 0,.int .i64 0,.string ⟨#[]⟩,.slice none 0 0,.slice none 0 0] 63)) hn (hl.below E)
  have F:=EC (toS xs) (by rw[qc];omega) (W.alloc (.cells #[.int .i64 0,.int .i64 0,.string ⟨#[]⟩,.slice none 0 0,.slice none 0 0] 63)) (Y.below E) (V.below E) (U (by omega) _)
  rw[th R]at F
  rw[M.out]
  obtain⟨S,hS⟩:=yaa (toS xs)
  rw[←hS]at ah F
  obtain⟨r,I⟩:=yaa (pR xs)
  rw[←I]at F⊢
  unfold yz at F
  have aj:=dM F
  have G:=dM O
  have Q:=dM E
  clear I hS F E O U hl R Y V M
  go_enter func64,ntmps64
  go_wp2_with fail
  refine aj.out.mono ?_
  rintro e B (⟨L,v,rfl,N,D⟩|⟨L,b,rfl,hp,hq,Z,D⟩)
  ·obtain⟨vk,A2,c9,rfl, -,⟨K9,d9,rfl, -, -⟩, -, -⟩:=N.open
   obtain⟨x0,ag⟩: ∃a,a=r.1.kind:=⟨_,rfl⟩
   obtain⟨x1,af⟩: ∃a,a=r.1.n:=⟨_,rfl⟩
   obtain⟨x2,ae⟩: ∃a,a=r.1.s:=⟨_,rfl⟩
   obtain⟨x3,ad⟩: ∃a,a=r.1.l.length:=⟨_,rfl⟩
   obtain⟨x4,ab⟩: ∃a,a=r.1.k.length:=⟨_,rfl⟩
   rw[←ag,←af,←ae,←ad,←ab]at N⊢
   have q:=Blk.below G.out D G.out.lt
   have s5:=BP q (.int .i64 x0) (.int .i64 x1) (.string x2) (.slice A2 x3 c9) (.slice K9 x4 d9)
   have HF:=dM s5
   have ai:=dM (RepS.keeps (T:=fun b=>W.heap.size≤b) (Keeps.grown s5.2 (fun b (h:_≤b) e=>by injection e with e;simp at h;omega)) (fun b (h:_≤b) _=>show W.heap.size≤b by simp at h;omega) _ _ N)
   have aa:=dM ((Q.out.trans (D.mono (by simp))).grown s5.2 (dV (by simp) D.size) (by intro k q;injection q with q;omega))
   have HE:=dM L
   obtain⟨b0,b1,b2,b3,b4⟩:B.cell? ⟨W.heap.size,0,none⟩=some (.int .i64 0)∧B.cell? ⟨W.heap.size,1,none⟩=some (.int .i64 0)∧B.cell? ⟨W.heap.size,2,none⟩=some (.string ⟨#[]⟩)∧B.cell? ⟨W.heap.size,3,none⟩=some (.slice none 0 0)∧B.cell? ⟨W.heap.size,4,none⟩=some (.slice none 0 0):=⟨q.cell 0,q.cell 1,q.cell 2,q.cell 3,q.cell 4⟩
   obtain⟨z0,z1,z2,z3,z4⟩:B.frozen? ⟨W.heap.size,0,none⟩=false∧B.frozen? ⟨W.heap.size,1,none⟩=false∧B.frozen? ⟨W.heap.size,2,none⟩=false∧B.frozen? ⟨W.heap.size,3,none⟩=false∧B.frozen? ⟨W.heap.size,4,none⟩=false:=⟨q.frozen 0,q.frozen 1,q.frozen 2,q.frozen 3,q.frozen 4⟩
   clear ag af ae ad ab N q s5 D L
   go_wp2
   refine dW (Lv results64 _ _ W.heap.size _ _ _ rfl HF.out.1 ed rfl m8) rfl ?_
   exact .inl (.inl ⟨HE.out,_,rfl,ai.out,aa.out⟩)
  ·have q:=Blk.below G.out D G.out.lt
   have s5:=BP q (.int .i64 0) (.int .i64 0) (.string ⟨#[]⟩) (.slice none 0 0) (.slice none 0 0)
   have HF:=dM s5
   have X:some b≠some W.heap.size:=by intro e;injection e with e;simp at Z;omega
   have HP:=dM (And.intro (s5.2.cell hp X) (s5.2.cell hq X))
   have aa:=dM ((Q.out.trans (D.mono (by simp))).grown s5.2 (dV (by simp) D.size) (by intro k q;injection q with q;omega))
   have HE:=dM L
   have ak:Hid (W.heap.size≤b):=dM (by simp at Z;omega)
   obtain⟨b0,b1,b2,b3,b4⟩:B.cell? ⟨W.heap.size,0,none⟩=some (.int .i64 0)∧B.cell? ⟨W.heap.size,1,none⟩=some (.int .i64 0)∧B.cell? ⟨W.heap.size,2,none⟩=some (.string ⟨#[]⟩)∧B.cell? ⟨W.heap.size,3,none⟩=some (.slice none 0 0)∧B.cell? ⟨W.heap.size,4,none⟩=some (.slice none 0 0):=⟨q.cell 0,q.cell 1,q.cell 2,q.cell 3,q.cell 4⟩
   obtain⟨z0,z1,z2,z3,z4⟩:B.frozen? ⟨W.heap.size,0,none⟩=false∧B.frozen? ⟨W.heap.size,1,none⟩=false∧B.frozen? ⟨W.heap.size,2,none⟩=false∧B.frozen? ⟨W.heap.size,3,none⟩=false∧B.frozen? ⟨W.heap.size,4,none⟩=false:=⟨q.frozen 0,q.frozen 1,q.frozen 2,q.frozen 3,q.frozen 4⟩
   clear q s5 D L hp hq Z X
   go_wp2
   refine dW (Lv results64 _ _ W.heap.size _ _ _ rfl HF.out.1 ed rfl m8) rfl ?_
   exact .inl (.inr ⟨HE.out,b,rfl,HP.out.1,HP.out.2,ak.out,aa.out⟩)
end Go.Proofs.YtceddodfddlncaaGreatDoor
