
import Derived.RangeFuncNested
import Derived.RangeFuncBound
import Derived.RangeFuncCalls
import Derived.RangeFuncLeaves
import Derived.Shelf.RegionOpen
import Derived.OwnWalkIn
import Derived.TacticsInMore
import Derived.LoopNIn
import Derived.LoopIn
import Derived.RangeFuncBox
import Derived.Lib.Builder
import Derived.Lib.AppendStr
import Derived.Lib.UnsafeStr
import Derived.Lib.Slices
import Derived.Lib.Walk
import Derived.Laws.Externs
import Derived.Test.YtceddodfddlncaaGreatDoorJb34
set_option maxRecDepth 100000
set_option maxHeartbeats 16000000
set_option linter.all false
namespace Go.Proofs.YtceddodfddlncaaGreatDoor
open Go Go.RowKit
theorem catch_idle (b2 b3:Nat) (w:World):
  CallsD Tryz.prog 127 #[.pointer (some ⟨b2,0,none⟩),.pointer (some ⟨b3,0,none⟩)] .returning w fun e u' w'=>e= .returned (.tuple #[])∧u'= .returning∧w'=w:=by
 refine callsD_of_wpS Tryz.func127 rfl fun c₀ cs hu=> ?_
 apply wpS_seq
 apply wpS_region
 simp[wpOpsS,go_sem,recoverD,hu,Tryz.ntmps127,Exit.thenS]
 refine wpS_of_wp ?_
 rw[show(#[.pointer (some ⟨b2,0,none⟩),.pointer (some ⟨b3,0,none⟩)]++(Array.replicate 17 undef).setIfInBounds 3 Value.nilIface)= #[.pointer (some ⟨b2,0,none⟩),.pointer (some ⟨b3,0,none⟩),undef,undef,undef,.nilIface,undef,undef,undef,undef,undef,undef,undef,undef,undef,undef,undef,undef,undef]from rfl]
 go_wp2
 refine⟨rfl,.returning,?_,_,results_none rfl _ _ _,rfl,rfl,rfl⟩
 cases c₀
 simp_all
def readL (l:List Int):J×Int×Int:=
 if(valueL l 8 (zaW l 0) 256).2.2.2≠0 then(zeroJ,(valueL l 8 (zaW l 0) 256).2.2.2,((valueL l 8 (zaW l 0) 256).2.1:Int))
 else if(valueL l 8 (zaW l 0) 256).2.1<l.length then(zeroJ,50,((valueL l 8 (zaW l 0) 256).2.1:Int))
 else((valueL l 8 (zaW l 0) 256).1,0, -1)
def PTells (W:World) (r:J×Int×Int) (e:Ending) (w':World):Prop:=
 (r.2.1=0∧ ∃v,e= .returned (.tuple #[v,.nilIface])∧RepS w' (fun b=>W.heap.size≤b) r.1 v∧Below W.heap.size W w')∨
 (r.2.1≠0∧ ∃b,e= .returned (.tuple #[.agg #[.int .i64 0,.int .i64 0,.string ⟨#[]⟩,.slice none 0 0,.slice none 0 0],.iface 188 (.pointer (some ⟨b,0,none⟩))])∧w'.cell? ⟨b,0,none⟩=some (.int .i64 r.2.2)∧w'.cell? ⟨b,1,none⟩=some (.iface 54 (.int .i64 r.2.1))∧W.heap.size≤b∧Below W.heap.size W w')
theorem caught_below {W w6 w3:World} {b2 b3:Nat} {p er:Int} (h:Below W.heap.size W w6) (hc:Caught w6 w3 b2 b3 p er) (h2:W.heap.size≤b2) (h3:W.heap.size≤b3):Below W.heap.size W w3:=by
 obtain⟨_,_,_,_,o1,o2,o3,hsz,far⟩:=hc
 have h1:=h.size
 exact⟨o1.trans h.os,o2.trans h.tape,o3.trans h.output,Nat.le_trans h1 hsz,fun k hk=>(far k (by omega) (by omega) (by omega)).trans (h.block k hk)⟩
theorem read_of (s:ByteArray) (hs:s.size≤10000) (W:World) (hm:Marks W) (ht:ErrTab W) (hv:zfu s (W.heap.size+2) 8):
  Calls Tryz.prog 95 #[.string s] W (PTells W (readL (strL s))):=by
 have HLEN:=Lib.hid (zaQ s)
 have hmf: ∀(fn:Fn) (first cap:Array Value) (w:World),(Instr.makeFunc fn first cap).run Tryz.prog w= .ok (.func fn first cap) w:=fun _ _ _ _=>rfl
 obtain⟨Wr,hWr⟩: ∃x,x=((W.alloc (.cells zeros5.toArray 63)).alloc (.cells #[.nilIface] 26)).alloc (.cells #[.string s,.int .i64 0,.int .i64 0] 192):=⟨_,rfl⟩
 have g1:=World.grownBy_alloc W (.cells zeros5.toArray 63) none
 have g2:=World.grownBy_alloc (W.alloc (.cells zeros5.toArray 63)) (.cells #[.nilIface] 26) none
 have g3:=World.grownBy_alloc ((W.alloc (.cells zeros5.toArray 63)).alloc (.cells #[.nilIface] 26)) (.cells #[.string s,.int .i64 0,.int .i64 0] 192) none
 have hb2:Blk Wr W.heap.size 63 zeros5:=by rw[hWr];exact((zck W rfl zeros5 _).grownN g2).grownN g3
 have hb3:Blk Wr (W.heap.size+1) 26 [.nilIface]:=by rw[hWr];exact(zck _ (by simp) [.nilIface] _).grownN g3
 have hr0:Rdr Wr (W.heap.size+2) s (0:Nat) (256-256):=by rw[hWr];exact zck _ (by simp) [.string s,.int .i64 0,.int .i64 0] _
 have hgr:W.grownBy Wr none:=by rw[hWr];exact(g1.trans g2).trans g3
 have hbel:Below W.heap.size W Wr:=⟨hgr.os,hgr.tape,hgr.output,hgr.size,fun i hi=>hgr.block i hi (by simp)⟩
 have hsz:Wr.heap.size=W.heap.size+3:=by rw[hWr];simp
 have hval:=hv 0 256 Wr (Nat.zero_le _) (by decide) (by decide) hr0 ⟨hm.below hbel,ht.below hbel,by have:=hm.lt;omega,by have:=zaa ht;show W.heap.size+2≠0;simp at this;omega⟩
 have HBEL:=Lib.hid hbel
 have HB2:=Lib.hid hb2
 have HB3:=Lib.hid hb3
 have HSZ:=Lib.hid hsz
 obtain⟨r,hr⟩: ∃r,r=readL (strL s):=⟨_,rfl⟩
 rw[←hr]
 unfold readL at hr
 obtain⟨R,hR⟩: ∃R,R=valueL (strL s) 8 (zaW (strL s) 0) 256:=⟨_,rfl⟩
 rw[←hR]at hval hr
 rw[HLEN.out]at hr
 have HRD:=Lib.hid hr
 unfold ValPost at hval
 have HV:=Lib.hid hval
 have HWR:=Lib.hid hWr
 clear g1 g2 g3 hb2 hb3 hr0 hgr hbel hsz hval hv hm ht hR hWr hr
 go_enter_defers Tryz.func95,Tryz.ntmps95
 go_wp2_with fail
 rw[show((W.alloc (.cells #[.int .i64 0,.int .i64 0,.string ⟨#[]⟩,.slice none 0 0,.slice none 0 0] 63)).alloc (.cells #[.nilIface] 26)).alloc (.cells #[.string s,.int .i64 0,.int .i64 0] 192)=Wr from HWR.out.symm]
 refine HV.out.mono ?_
 rintro e w2 (⟨he,v,q,rfl,hrep,hq,hsk,hg2,hr2⟩|⟨he,rfl,hg2⟩)
 ·have HR2':Hid (r=if R.2.1<s.size then(zeroJ,50,(R.2.1:Int))else(R.1,0, -1)):=Lib.hid (HRD.out.trans (if_neg (fun h=>h he)))
  obtain⟨vk,A,c9,rfl, -,⟨K9,d9,rfl, -, -⟩, -, -⟩:=hrep.open
  obtain⟨x0,hx0⟩: ∃a,a=R.1.kind:=⟨_,rfl⟩
  obtain⟨x1,hx1⟩: ∃a,a=R.1.n:=⟨_,rfl⟩
  obtain⟨x2,hx2⟩: ∃a,a=R.1.s:=⟨_,rfl⟩
  obtain⟨x3,hx3⟩: ∃a,a=R.1.l.length:=⟨_,rfl⟩
  obtain⟨x4,hx4⟩: ∃a,a=R.1.k.length:=⟨_,rfl⟩
  rw[←hx0,←hx1,←hx2,←hx3,←hx4]at hrep⊢
  have HREP:=Lib.hid hrep
  have hk2:Blk w2 W.heap.size 63 zeros5:=HB2.out.grown hg2 (by intro e;injection e with e;omega)
  obtain⟨b0,b1,b2,b3,b4⟩:w2.cell? ⟨W.heap.size,0,none⟩=some (.int .i64 0)∧w2.cell? ⟨W.heap.size,1,none⟩=some (.int .i64 0)∧w2.cell? ⟨W.heap.size,2,none⟩=some (.string ⟨#[]⟩)∧w2.cell? ⟨W.heap.size,3,none⟩=some (.slice none 0 0)∧w2.cell? ⟨W.heap.size,4,none⟩=some (.slice none 0 0):=⟨hk2.cell 0,hk2.cell 1,hk2.cell 2,hk2.cell 3,hk2.cell 4⟩
  obtain⟨z0,z1,z2,z3,z4⟩:w2.frozen? ⟨W.heap.size,0,none⟩=false∧w2.frozen? ⟨W.heap.size,1,none⟩=false∧w2.frozen? ⟨W.heap.size,2,none⟩=false∧w2.frozen? ⟨W.heap.size,3,none⟩=false∧w2.frozen? ⟨W.heap.size,4,none⟩=false:=⟨hk2.frozen 0,hk2.frozen 1,hk2.frozen 2,hk2.frozen 3,hk2.frozen 4⟩
  have HF:=Lib.hid (zdZ hk2 (.int .i64 x0) (.int .i64 x1) (.string x2) (.slice A x3 c9) (.slice K9 x4 d9))
  have hr5:=Blk.grown hr2 HF.out.2 (by intro e;injection e with e;omega)
  have hbl:=zbg (W.heap.size+2) s q _ _ hr5 hq (by omega)
  rw[hsk]at hbl
  have HBL:=Lib.hid hbl
  have HG2:=Lib.hid hg2
  have HK3:=Lib.hid (show Blk w2 (W.heap.size+1) 26 [.nilIface]from HB3.out.grown hg2 (by intro e;injection e with e;omega))
  clear hx0 hx1 hx2 hx3 hx4 hrep hk2 hr5 hbl hg2 hr2 he hsk
  by_cases hlt:R.2.1<s.size
  ·have HR2:=Lib.hid (HR2'.out.trans (if_pos hlt))
   have hltI:((R.2.1:Nat):Int)<(s.size:Int):=by omega
   obtain⟨P,hP⟩: ∃P,P=R.2.1:=⟨_,rfl⟩
   rw[←hP]at HBL HR2 hltI
   clear hlt hP HR2'
   go_wp2_with fail
   refine HBL.out.mono ?_
   rintro e w6 ⟨rfl,hg6,hr6⟩
   have HB6:Hid (Below W.heap.size W w6):=Lib.hid (((HBEL.out.grown HG2.out HBEL.out.size (by intro k hk;injection hk with hk;omega)).grown HF.out.2 (Nat.le_trans HBEL.out.size HG2.out.size) (by intro k hk;injection hk with hk;omega)).grown hg6 (Nat.le_trans (Nat.le_trans HBEL.out.size HG2.out.size) HF.out.2.size) (by intro k hk;injection hk with hk;omega))
   have hk6:=Blk.grown HF.out.1 hg6 (by intro e;injection e with e;omega)
   have HK36:Hid (Blk w6 (W.heap.size+1) 26 [.nilIface]):=Lib.hid ((HK3.out.grown HF.out.2 (by intro e;injection e with e;omega)).grown hg6 (by intro e;injection e with e;omega))
   have HK6:=Lib.hid hk6
   obtain⟨⟨c0,c1,c2⟩,f0,f1,f2⟩:=Rdr.cells hr6
   have HC:=Lib.hid (zki W.heap.size (W.heap.size+1) (P:Int) 50 w6 _ _ _ _ _ HK6.out HK36.out (by omega))
   clear hg6 hr6 hk6
   go_wp2_with(go_at_call 130;(with_reducible refine(zbf _ _ _).mono ?_);rintro e w' ⟨rfl,rfl⟩)
   refine leaves_cons (f:=127) (args:= #[.pointer (some ⟨W.heap.size,0,none⟩),.pointer (some ⟨W.heap.size+1,0,none⟩)]) (by simp) (by simp[go_sem]) ?_
   refine HC.out.mono ?_
   rintro e u' w3 ⟨rfl,rfl,hc⟩
   have HB3':=Lib.hid (caught_below HB6.out hc (Nat.le_refl _) (by omega))
   have HLE:Hid (W.heap.size≤w6.heap.size+1):=Lib.hid (by have h1:=HB6.out.size;omega)
   obtain⟨k2,k3,p1,p2,_⟩:=hc
   obtain⟨y0,y1,y2,y3,y4⟩:w3.cell? ⟨W.heap.size,0,none⟩=some (.int .i64 0)∧w3.cell? ⟨W.heap.size,1,none⟩=some (.int .i64 0)∧w3.cell? ⟨W.heap.size,2,none⟩=some (.string ⟨#[]⟩)∧w3.cell? ⟨W.heap.size,3,none⟩=some (.slice none 0 0)∧w3.cell? ⟨W.heap.size,4,none⟩=some (.slice none 0 0):=⟨k2.cell 0,k2.cell 1,k2.cell 2,k2.cell 3,k2.cell 4⟩
   have d0:w3.cell? ⟨W.heap.size+1,0,none⟩=some (.iface 188 (.pointer (some ⟨w6.heap.size+1,0,none⟩))):=k3.cell 0
   simp[Leaves,settle,results,Tryz.results95,go_sem,y0,y1,y2,y3,y4,d0]
   rw[HR2.out]
   exact .inr ⟨show(50:Int)≠0 by decide,_,rfl,p1,p2,HLE.out,HB3'.out⟩
  ·have HR2:=Lib.hid (HR2'.out.trans (if_neg hlt))
   have hltI: ¬((R.2.1:Nat):Int)<(s.size:Int):=by omega
   obtain⟨P,hP⟩: ∃P,P=R.2.1:=⟨_,rfl⟩
   rw[←hP]at HBL hltI
   clear hlt hP HR2'
   go_wp2_with fail
   refine HBL.out.mono ?_
   rintro e w6 ⟨rfl,hg6,hr6⟩
   have HB6:Hid (Below W.heap.size W w6):=Lib.hid (((HBEL.out.grown HG2.out HBEL.out.size (by intro k hk;injection hk with hk;omega)).grown HF.out.2 (Nat.le_trans HBEL.out.size HG2.out.size) (by intro k hk;injection hk with hk;omega)).grown hg6 (Nat.le_trans (Nat.le_trans HBEL.out.size HG2.out.size) HF.out.2.size) (by intro k hk;injection hk with hk;omega))
   have hk6:=Blk.grown HF.out.1 hg6 (by intro e;injection e with e;omega)
   have HK36:Hid (Blk w6 (W.heap.size+1) 26 [.nilIface]):=Lib.hid ((HK3.out.grown HF.out.2 (by intro e;injection e with e;omega)).grown hg6 (by intro e;injection e with e;omega))
   have HK6:=Lib.hid hk6
   obtain⟨⟨c0,c1,c2⟩,f0,f1,f2⟩:=Rdr.cells hr6
   obtain⟨a0,a1,a2,a3,a4⟩:w6.cell? ⟨W.heap.size,0,none⟩=some (.int .i64 x0)∧w6.cell? ⟨W.heap.size,1,none⟩=some (.int .i64 x1)∧w6.cell? ⟨W.heap.size,2,none⟩=some (.string x2)∧w6.cell? ⟨W.heap.size,3,none⟩=some (.slice A x3 c9)∧w6.cell? ⟨W.heap.size,4,none⟩=some (.slice K9 x4 d9):=⟨hk6.cell 0,hk6.cell 1,hk6.cell 2,hk6.cell 3,hk6.cell 4⟩
   obtain⟨y0,y1,y2,y3,y4⟩:w6.frozen? ⟨W.heap.size,0,none⟩=false∧w6.frozen? ⟨W.heap.size,1,none⟩=false∧w6.frozen? ⟨W.heap.size,2,none⟩=false∧w6.frozen? ⟨W.heap.size,3,none⟩=false∧w6.frozen? ⟨W.heap.size,4,none⟩=false:=⟨hk6.frozen 0,hk6.frozen 1,hk6.frozen 2,hk6.frozen 3,hk6.frozen 4⟩
   have d0:w6.cell? ⟨W.heap.size+1,0,none⟩=some .nilIface:=HK36.out.cell 0
   have d1:w6.frozen? ⟨W.heap.size+1,0,none⟩=false:=HK36.out.frozen 0
   have HREP6:=Lib.hid (RepS.keeps (S:=fun b=>Wr.heap.size≤b) (T:=fun b=>W.heap.size+3≤b) ((Keeps.grown HF.out.2 (fun b (h:_≤b) e=>by injection e with e;have:=HSZ.out;omega)).trans (Keeps.grown hg6 (fun b (h:_≤b) e=>by injection e with e;have:=HSZ.out;omega))) (fun b (h:_≤b) _=>show W.heap.size+3≤b by have:=HSZ.out;omega) _ _ HREP.out)
   have s5:=zdZ hk6 (.int .i64 x0) (.int .i64 x1) (.string x2) (.slice A x3 c9) (.slice K9 x4 d9)
   have g8:=zaV (((((w6.setCell ⟨W.heap.size,0,none⟩ (.int .i64 x0)).setCell ⟨W.heap.size,1,none⟩ (.int .i64 x1)).setCell ⟨W.heap.size,2,none⟩ (.string x2)).setCell ⟨W.heap.size,3,none⟩ (.slice A x3 c9)).setCell ⟨W.heap.size,4,none⟩ (.slice K9 x4 d9)) (W.heap.size+1) 0 .nilIface
   have HW8:Hid (Blk (((((((w6.setCell ⟨W.heap.size,0,none⟩ (.int .i64 x0)).setCell ⟨W.heap.size,1,none⟩ (.int .i64 x1)).setCell ⟨W.heap.size,2,none⟩ (.string x2)).setCell ⟨W.heap.size,3,none⟩ (.slice A x3 c9)).setCell ⟨W.heap.size,4,none⟩ (.slice K9 x4 d9))).setCell ⟨W.heap.size+1,0,none⟩ .nilIface) W.heap.size 63 [.int .i64 x0,.int .i64 x1,.string x2,.slice A x3 c9,.slice K9 x4 d9]∧Blk (((((((w6.setCell ⟨W.heap.size,0,none⟩ (.int .i64 x0)).setCell ⟨W.heap.size,1,none⟩ (.int .i64 x1)).setCell ⟨W.heap.size,2,none⟩ (.string x2)).setCell ⟨W.heap.size,3,none⟩ (.slice A x3 c9)).setCell ⟨W.heap.size,4,none⟩ (.slice K9 x4 d9))).setCell ⟨W.heap.size+1,0,none⟩ .nilIface) (W.heap.size+1) 26 [.nilIface]∧RepS (((((((w6.setCell ⟨W.heap.size,0,none⟩ (.int .i64 x0)).setCell ⟨W.heap.size,1,none⟩ (.int .i64 x1)).setCell ⟨W.heap.size,2,none⟩ (.string x2)).setCell ⟨W.heap.size,3,none⟩ (.slice A x3 c9)).setCell ⟨W.heap.size,4,none⟩ (.slice K9 x4 d9))).setCell ⟨W.heap.size+1,0,none⟩ .nilIface) (fun b=>W.heap.size≤b) R.1 (.agg #[.int .i64 x0,.int .i64 x1,.string x2,.slice A x3 c9,.slice K9 x4 d9])∧Below W.heap.size W (((((((w6.setCell ⟨W.heap.size,0,none⟩ (.int .i64 x0)).setCell ⟨W.heap.size,1,none⟩ (.int .i64 x1)).setCell ⟨W.heap.size,2,none⟩ (.string x2)).setCell ⟨W.heap.size,3,none⟩ (.slice A x3 c9)).setCell ⟨W.heap.size,4,none⟩ (.slice K9 x4 d9))).setCell ⟨W.heap.size+1,0,none⟩ .nilIface)):=Lib.hid
    ⟨s5.1.grown g8 (by intro e;injection e with e;omega),(HK36.out.grown s5.2 (by intro e;injection e with e;omega)).setCell 0 .nilIface,
     RepS.keeps (S:=fun b=>W.heap.size+3≤b) (T:=fun b=>W.heap.size≤b) ((Keeps.grown s5.2 (fun b (h:_≤b) e=>by injection e with e;omega)).trans (Keeps.grown g8 (fun b (h:_≤b) e=>by injection e with e;omega))) (fun b (h:_≤b) _=>show W.heap.size≤b by omega) _ _ HREP6.out,
     (HB6.out.grown s5.2 HB6.out.size (by intro k hk;injection hk with hk;omega)).grown g8 (Nat.le_trans HB6.out.size s5.2.size) (by intro k hk;injection hk with hk;omega)⟩
   clear s5 g8 hg6 hr6 hk6
   go_wp2
   generalize ((((((w6.setCell ⟨W.heap.size,0,none⟩ (.int .i64 x0)).setCell ⟨W.heap.size,1,none⟩ (.int .i64 x1)).setCell ⟨W.heap.size,2,none⟩ (.string x2)).setCell ⟨W.heap.size,3,none⟩ (.slice A x3 c9)).setCell ⟨W.heap.size,4,none⟩ (.slice K9 x4 d9))).setCell ⟨W.heap.size+1,0,none⟩ .nilIface=w8 at HW8⊢
   obtain⟨k2,k3,hrep8,hb8⟩:=HW8.out
   refine leaves_cons (f:=127) (args:= #[.pointer (some ⟨W.heap.size,0,none⟩),.pointer (some ⟨W.heap.size+1,0,none⟩)]) (by simp) (by simp[go_sem]) ?_
   refine(catch_idle W.heap.size (W.heap.size+1) w8).mono ?_
   rintro e u' w3 ⟨rfl,rfl,rfl⟩
   obtain⟨e0,e1,e2,e3,e4⟩:w3.cell? ⟨W.heap.size,0,none⟩=some (.int .i64 x0)∧w3.cell? ⟨W.heap.size,1,none⟩=some (.int .i64 x1)∧w3.cell? ⟨W.heap.size,2,none⟩=some (.string x2)∧w3.cell? ⟨W.heap.size,3,none⟩=some (.slice A x3 c9)∧w3.cell? ⟨W.heap.size,4,none⟩=some (.slice K9 x4 d9):=⟨k2.cell 0,k2.cell 1,k2.cell 2,k2.cell 3,k2.cell 4⟩
   have d8:w3.cell? ⟨W.heap.size+1,0,none⟩=some .nilIface:=k3.cell 0
   have HREP8:=Lib.hid hrep8
   have HB8:=Lib.hid hb8
   clear k2 k3 hrep8 hb8 HW8
   simp[Leaves,settle,results,Tryz.results95,go_sem,e0,e1,e2,e3,e4,d8]
   rw[HR2.out]
   exact .inl ⟨rfl,_,rfl,HREP8.out,HB8.out⟩
 ·have hk2:Blk w2 W.heap.size 63 zeros5:=HB2.out.grown hg2 (by intro e;injection e with e;omega)
  have hk3:Blk w2 (W.heap.size+1) 26 [.nilIface]:=HB3.out.grown hg2 (by intro e;injection e with e;omega)
  have HC:=Lib.hid (zki W.heap.size (W.heap.size+1) (R.2.1:Nat) R.2.2.2 w2 _ _ _ _ _ hk2 hk3 (by omega))
  have HG2:=Lib.hid hg2
  have HE:=Lib.hid he
  have HR2:=Lib.hid (HRD.out.trans (if_pos he))
  clear hk2 hk3 hg2 he
  go_wp2
  refine leaves_cons (f:=127) (args:= #[.pointer (some ⟨W.heap.size,0,none⟩),.pointer (some ⟨W.heap.size+1,0,none⟩)]) (by simp) (by simp[go_sem]) ?_
  refine HC.out.mono ?_
  rintro e u' w3 ⟨rfl,rfl,hc⟩
  obtain⟨k2,k3,p1,p2,o1,o2,o3,hsz3,far⟩:=hc
  obtain⟨b0,b1,b2,b3,b4⟩:w3.cell? ⟨W.heap.size,0,none⟩=some (.int .i64 0)∧w3.cell? ⟨W.heap.size,1,none⟩=some (.int .i64 0)∧w3.cell? ⟨W.heap.size,2,none⟩=some (.string ⟨#[]⟩)∧w3.cell? ⟨W.heap.size,3,none⟩=some (.slice none 0 0)∧w3.cell? ⟨W.heap.size,4,none⟩=some (.slice none 0 0):=⟨k2.cell 0,k2.cell 1,k2.cell 2,k2.cell 3,k2.cell 4⟩
  have d0:w3.cell? ⟨W.heap.size+1,0,none⟩=some (.iface 188 (.pointer (some ⟨w2.heap.size+1,0,none⟩))):=k3.cell 0
  have HB3':Hid (Below W.heap.size W w3):=Lib.hid ⟨o1.trans (HG2.out.os.trans HBEL.out.os),o2.trans (HG2.out.tape.trans HBEL.out.tape),o3.trans (HG2.out.output.trans HBEL.out.output),Nat.le_trans HBEL.out.size (Nat.le_trans HG2.out.size hsz3),fun k hk=>by
   have h1:=HBEL.out.size
   have h2:=HG2.out.size
   rw[far k (by omega) (by omega) (by omega),HG2.out.block k (by omega) (by intro e;injection e with e<;>omega)]
   exact HBEL.out.block k hk⟩
  have HLE:Hid (W.heap.size≤w2.heap.size+1):=Lib.hid (by have h1:=HBEL.out.size;have h2:=HG2.out.size;omega)
  simp[Leaves,settle,results,Tryz.results95,go_sem,b0,b1,b2,b3,b4,d0]
  rw[HR2.out]
  exact .inr ⟨HE.out,_,rfl,p1,p2,HLE.out,HB3'.out⟩
def zai (l:List Int):J×Int×Int:=if 4096<l.length then(zeroJ,2, -1)else readL l
theorem zlo (l:List Int):zai l=parseL l:=by
 unfold zai parseL readL
 split
 ·rfl
 ·split
  ·rfl
  ·split<;>rfl
def zkn (W:World) (r:J×Int×Int) (e:Ending) (w':World):Prop:=
 PTells W r e w'∨(r.2.1≠0∧r.2.2= -1∧e= .returned (.tuple #[.agg #[.int .i64 0,.int .i64 0,.string ⟨#[]⟩,.slice none 0 0,.slice none 0 0],.iface 54 (.int .i64 r.2.1)])∧Below W.heap.size W w')
theorem zgk {P:Program} {fn:Func} {p u:Tmp} {ty:TypeId} (h:fn.results= #[.cell p ty,.tmp u]) (tmps:Array Value) (w:World) (g:Nat) (t:TypeId) (cs:List Value) (de:TypeDesc)
  (hp:tmps.getD p undef= .pointer (some ⟨g,0,none⟩)) (hb:Blk w g t cs)
  (hu:P.underlying ty=some de) (hd:de.isRow=true) (hi:(P.info? ty).map (·.size)=some cs.length):
  (results fn tmps).run P w= .ok (.tuple #[.agg cs.toArray,tmps.getD u undef]) w:=by
 have hp':tmps[p]?.getD undef= .pointer (some ⟨g,0,none⟩):=by simpa using hp
 have hl:=run_loadVar_row w g t ty cs.toArray (0,0) de hb hu (by cases de<;>first|rfl|cases hd) (by simpa using hi)
 simp only[results,h]
 simp[Sem.run_bind,Result.andThen,hp',asAddr,hl]
theorem parse_of (A:Option Addr) (xs:List Int) (n c:Nat) (W:World) (hn:xs.length=n) (hn2:n≤9223372036854775807) (hx:Bytes xs) (hl:Lies W A xs) (hm:Marks W) (ht:ErrTab W) (hv:n≤4096→ ∀rb,zfu (toS xs) rb 8):
  Calls Tryz.prog 64 #[.slice A n c] W (zkn W (zai xs)):=by
 have hbel:=zad W (.cells zeros5.toArray 63)
 have hb:=zck W rfl zeros5 63
 by_cases h:4096<n
 ·have HR:Hid (zai xs=(zeroJ,2, -1)):=Lib.hid (by unfold zai;exact if_pos (by omega))
  have hI:(4096:Int)<(n:Int):=by omega
  have HB:=Lib.hid hb
  have HBE:=Lib.hid hbel
  obtain⟨r,hr⟩: ∃r,r=zai xs:=⟨_,rfl⟩
  rw[←hr]at HR⊢
  clear hr hbel hb hv hl hx hm ht
  go_enter Tryz.func64,Tryz.ntmps64
  go_wp2
  refine bodyPost_ret (zgk Tryz.results64 _ _ W.heap.size _ _ _ rfl HB.out Tryz.underlying63 rfl zau) rfl ?_
  rw[HR.out]
  exact .inr ⟨show(2:Int)≠0 by decide,rfl,rfl,HBE.out⟩
 ·have HR:Hid (zai xs=readL xs):=Lib.hid (by unfold zai;exact if_neg (by omega))
  have hI: ¬(4096:Int)<(n:Int):=by omega
  have hcv:=zdo A xs n c (W.alloc (.cells #[.int .i64 0,.int .i64 0,.string ⟨#[]⟩,.slice none 0 0,.slice none 0 0] 63)) hn (hl.below hbel)
  have hrd:=read_of (toS xs) (by rw[zcm];omega) (W.alloc (.cells #[.int .i64 0,.int .i64 0,.string ⟨#[]⟩,.slice none 0 0,.slice none 0 0] 63)) (hm.below hbel) (ht.below hbel) (hv (by omega) _)
  rw[zcb hx]at hrd
  rw[HR.out]
  obtain⟨S,hS⟩: ∃S,S=toS xs:=⟨_,rfl⟩
  rw[←hS]at hcv hrd
  obtain⟨r,hr⟩: ∃r,r=readL xs:=⟨_,rfl⟩
  rw[←hr]at hrd⊢
  unfold PTells at hrd
  have HRD:=Lib.hid hrd
  have HB:=Lib.hid hb
  have HBE:=Lib.hid hbel
  clear hr hS hrd hbel hb hv hl hx hm ht HR
  go_enter Tryz.func64,Tryz.ntmps64
  go_wp2_with fail
  refine HRD.out.mono ?_
  rintro e w2 (⟨he,v,rfl,hrep,hb2⟩|⟨he,b,rfl,hp,hq,hle,hb2⟩)
  ·obtain⟨vk,A2,c9,rfl, -,⟨K9,d9,rfl, -, -⟩, -, -⟩:=hrep.open
   obtain⟨x0,hx0⟩: ∃a,a=r.1.kind:=⟨_,rfl⟩
   obtain⟨x1,hx1⟩: ∃a,a=r.1.n:=⟨_,rfl⟩
   obtain⟨x2,hx2⟩: ∃a,a=r.1.s:=⟨_,rfl⟩
   obtain⟨x3,hx3⟩: ∃a,a=r.1.l.length:=⟨_,rfl⟩
   obtain⟨x4,hx4⟩: ∃a,a=r.1.k.length:=⟨_,rfl⟩
   rw[←hx0,←hx1,←hx2,←hx3,←hx4]at hrep⊢
   have hk:=Blk.below HB.out hb2 HB.out.lt
   have s5:=zdZ hk (.int .i64 x0) (.int .i64 x1) (.string x2) (.slice A2 x3 c9) (.slice K9 x4 d9)
   have HF:=Lib.hid s5
   have HREP:=Lib.hid (RepS.keeps (T:=fun b=>W.heap.size≤b) (Keeps.grown s5.2 (fun b (h:_≤b) e=>by injection e with e;simp at h;omega)) (fun b (h:_≤b) _=>show W.heap.size≤b by simp at h;omega) _ _ hrep)
   have HB2:=Lib.hid ((HBE.out.trans (hb2.mono (by simp))).grown s5.2 (Nat.le_trans (by simp) hb2.size) (by intro k hk;injection hk with hk;omega))
   have HE:=Lib.hid he
   obtain⟨b0,b1,b2,b3,b4⟩:w2.cell? ⟨W.heap.size,0,none⟩=some (.int .i64 0)∧w2.cell? ⟨W.heap.size,1,none⟩=some (.int .i64 0)∧w2.cell? ⟨W.heap.size,2,none⟩=some (.string ⟨#[]⟩)∧w2.cell? ⟨W.heap.size,3,none⟩=some (.slice none 0 0)∧w2.cell? ⟨W.heap.size,4,none⟩=some (.slice none 0 0):=⟨hk.cell 0,hk.cell 1,hk.cell 2,hk.cell 3,hk.cell 4⟩
   obtain⟨z0,z1,z2,z3,z4⟩:w2.frozen? ⟨W.heap.size,0,none⟩=false∧w2.frozen? ⟨W.heap.size,1,none⟩=false∧w2.frozen? ⟨W.heap.size,2,none⟩=false∧w2.frozen? ⟨W.heap.size,3,none⟩=false∧w2.frozen? ⟨W.heap.size,4,none⟩=false:=⟨hk.frozen 0,hk.frozen 1,hk.frozen 2,hk.frozen 3,hk.frozen 4⟩
   clear hx0 hx1 hx2 hx3 hx4 hrep hk s5 hb2 he
   go_wp2
   refine bodyPost_ret (zgk Tryz.results64 _ _ W.heap.size _ _ _ rfl HF.out.1 Tryz.underlying63 rfl zau) rfl ?_
   exact .inl (.inl ⟨HE.out,_,rfl,HREP.out,HB2.out⟩)
  ·have hk:=Blk.below HB.out hb2 HB.out.lt
   have s5:=zdZ hk (.int .i64 0) (.int .i64 0) (.string ⟨#[]⟩) (.slice none 0 0) (.slice none 0 0)
   have HF:=Lib.hid s5
   have hne:some b≠some W.heap.size:=by intro e;injection e with e;simp at hle;omega
   have HP:=Lib.hid (And.intro (s5.2.cell hp hne) (s5.2.cell hq hne))
   have HB2:=Lib.hid ((HBE.out.trans (hb2.mono (by simp))).grown s5.2 (Nat.le_trans (by simp) hb2.size) (by intro k hk;injection hk with hk;omega))
   have HE:=Lib.hid he
   have HLE:Hid (W.heap.size≤b):=Lib.hid (by simp at hle;omega)
   obtain⟨b0,b1,b2,b3,b4⟩:w2.cell? ⟨W.heap.size,0,none⟩=some (.int .i64 0)∧w2.cell? ⟨W.heap.size,1,none⟩=some (.int .i64 0)∧w2.cell? ⟨W.heap.size,2,none⟩=some (.string ⟨#[]⟩)∧w2.cell? ⟨W.heap.size,3,none⟩=some (.slice none 0 0)∧w2.cell? ⟨W.heap.size,4,none⟩=some (.slice none 0 0):=⟨hk.cell 0,hk.cell 1,hk.cell 2,hk.cell 3,hk.cell 4⟩
   obtain⟨z0,z1,z2,z3,z4⟩:w2.frozen? ⟨W.heap.size,0,none⟩=false∧w2.frozen? ⟨W.heap.size,1,none⟩=false∧w2.frozen? ⟨W.heap.size,2,none⟩=false∧w2.frozen? ⟨W.heap.size,3,none⟩=false∧w2.frozen? ⟨W.heap.size,4,none⟩=false:=⟨hk.frozen 0,hk.frozen 1,hk.frozen 2,hk.frozen 3,hk.frozen 4⟩
   clear hk s5 hb2 he hp hq hle hne
   go_wp2
   refine bodyPost_ret (zgk Tryz.results64 _ _ W.heap.size _ _ _ rfl HF.out.1 Tryz.underlying63 rfl zau) rfl ?_
   exact .inl (.inr ⟨HE.out,b,rfl,HP.out.1,HP.out.2,HLE.out,HB2.out⟩)
end Go.Proofs.YtceddodfddlncaaGreatDoor
