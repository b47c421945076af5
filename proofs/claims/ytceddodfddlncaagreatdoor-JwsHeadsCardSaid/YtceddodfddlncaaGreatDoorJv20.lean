
import Derived.Test.YtceddodfddlncaaGreatDoorJv18
import Derived.Test.YtceddodfddlncaaGreatDoorJv19
set_option maxRecDepth 100000
set_option maxHeartbeats 16000000
set_option linter.all false
namespace Go.Proofs.YtceddodfddlncaaGreatDoor
open Go Go.RowKit Tryz
def jh:=@ntmps128
def jw:=@results128
def jB:=@func128
theorem zp:(prog.info? 120).map (·.zero)=some (some (.agg #[.pointer none,.slice none 0 0])):=by kernel_rfl
theorem rM {l:List Int} (h:Bytes l):Lib.strCells (toS l)=c_ .u8 l:=by rw[NW,th h]
theorem Ms (s:ByteArray) (i:Nat):Bytes (nH (a_ s) i):=((pM s).drop _).take _
theorem Dj (l:List Int) (i:Nat):(n9 l i).1.length≤4:=by
 unfold n9 pJ
 have q:=KT (f_ l (i+1))
 split
 ·split
  ·simp
  ·show(nQ _).length≤4;omega
 ·split
  ·simp
  ·split
   ·exact BF _
   ·split
    ·simp
    ·exact BF _
theorem yd (l:List Int) (i:Nat):Bytes (n9 l i).1:=by
 have q:Bytes []:= .of_mem fun x B=>by cases B
 unfold n9 pJ
 split
 ·split
  ·exact q
  ·exact MM _
 ·split
  ·exact q
  ·split
   ·exact F_ _
   ·split
    ·exact q
    ·exact F_ _
theorem rn {l:List Int} {i:Nat} (h:(n9 l i).2.2=0):i+2≤(n9 l i).2.1∧(n9 l i).2.1≤l.length:=by
 have E: ∀a:Nat,(mX l 4 a 0).1≥0→a+4≤l.length:=fun a h=>by
  rcases eX l.length (a+4)with hlt|hge
  ·exfalso
   have G: ∀(k a:Nat) (n:Int),l.length<a+k→0≤n→(mX l k a n).1<0∨k=0:=fun k=>by
    induction k with
    |zero=>intro _ _ _ _;right;rfl
    |succ k ih=>
     intro a n I M
     left
     rw[mX]
     split
     ·show(-1:Int)<0;decide
     ·rename_i D
      rcases eX a l.length with ha|ha
      ·have O:=Jo (f_ l a)
       rcases ih (a+1) (16*n+nf (f_ l a)) (by omega) (by omega)with h|rfl
       ·exact h
       ·omega
      ·exfalso
       have:f_ l a= -1:=by rw[f_,dR,fJ ha];rfl
       rw[this,Kt]at D
       exact D (by decide)
   rcases G 4 a 0 hlt (by decide)with h'|h'
   ·omega
   ·cases h'
  ·exact hge
 unfold n9 at h⊢
 by_cases h1:f_ l (i+1)≠117
 ·rw[dP h1]at h⊢
  by_cases q:nQ (f_ l (i+1))=[]
  ·rw[dP q]at h;exact absurd (show(50:Int)=0 from h) (by decide)
  ·rw[dN q]
   have:i+1<l.length:=oq (by intro e;rw[e]at q;exact q (by decide))
   exact⟨dQ _,by show i+2≤l.length;omega⟩
 ·rw[dN h1]at h⊢
  unfold pJ at h⊢
  by_cases q:(mX l 4 (i+2) 0).1<0
  ·rw[dP q]at h;exact absurd (show(50:Int)=0 from h) (by decide)
  ·rw[dN q]at h⊢
   have I:=E (i+2) (by omega)
   by_cases F:(mX l 4 (i+2) 0).1<55296∨57343<(mX l 4 (i+2) 0).1
   ·rw[dP F];exact⟨by show i+2≤i+6;omega,by show i+6≤l.length;omega⟩
   ·rw[dN F]at h⊢
    by_cases B:56320≤(mX l 4 (i+2) 0).1∨oi l i<56320∨57343<oi l i
    ·rw[dP B]at h;exact absurd (show(50:Int)=0 from h) (by decide)
    ·rw[dN B]
     have L:0≤(mX l 4 (i+8) 0).1:=by
      have: ¬oi l i<56320:=fun h=>B (.inr (.inl h))
      unfold oi at this
      split at this
      ·omega
      ·exact absurd (by decide:(-1:Int)<56320) this
     have N:=E (i+8) L
     exact⟨by show i+2≤i+12;omega,by show i+12≤l.length;omega⟩
theorem Am {l:List Int} {j:Nat} {out:List Int} (E:j≤l.length) (D:f_ l j=92) (q:(n9 l j).2.2=0):
  oc l (l.length+1) j out=if na (nH l (n9 l j).2.1)<oX l (n9 l j).2.1-(n9 l j).2.1 then([],(n9 l j).2.1+na (nH l (n9 l j).2.1),50)
   else oc l (l.length+1) (oX l (n9 l j).2.1) (out++(n9 l j).1++nH l (n9 l j).2.1):=by
 have B:=rn q
 have h1:=qR l l.length j out D
 rw[dN (fun h=>h q)]at h1
 rw[h1]
 exact Mh l _ _ _ _ _ (dQ _) B.2 (by omega) (by omega)
theorem MG {w a b:World} {B:Nat} (h:w.grownBy a (some B)) (q:Below w.heap.size a b):w.grownBy b (some B):=
 ⟨q.os.trans h.os,q.tape.trans h.tape,q.output.trans h.output,dV h.size q.size,fun i hi D=>(q.block i hi).trans (h.block i hi D)⟩
theorem AW {w q:World} {g:Nat} (B:w.heap.size≤g) (D:Blk q g 120 [.pointer none,.slice none 0 0]):IsBld w.heap.size g [] q:=
 .inl ⟨B,_,D,ft _ _ _ _,by simp[Value.ownBlock]⟩
theorem Dk (l:List Int) (i:Nat):(n9 l i).2.2=0∨(n9 l i).2.2=50:=by
 unfold n9 pJ
 split
 ·split
  ·exact .inr rfl
  ·exact .inl rfl
 ·split
  ·exact .inr rfl
  ·split
   ·exact .inl rfl
   ·split
    ·exact .inr rfl
    ·exact .inl rfl
def QInv (w wr:World) (rb g:Nat) (s:ByteArray) (j:Nat) (n:Int) (out:List Int):Prop:=
 IsBld w.heap.size g (c_ .u8 out) wr∧w.grownBy wr (some rb)∧Rdr wr rb s j n
theorem QInv.bld {w wr:World} {q g:Nat} {s:ByteArray} {j:Nat} {n:Int} {out:List Int} (h:QInv w wr q g s j n out):IsBld w.heap.size g (c_ .u8 out) wr:=h.1
theorem QInv.gr {w wr:World} {q g:Nat} {s:ByteArray} {j:Nat} {n:Int} {out:List Int} (h:QInv w wr q g s j n out):w.grownBy wr (some q):=h.2.1
theorem QInv.rdr {w wr:World} {q g:Nat} {s:ByteArray} {j:Nat} {n:Int} {out:List Int} (h:QInv w wr q g s j n out):Rdr wr q s j n:=h.2.2
theorem QInv.move {w wr D:World} {q g:Nat} {s:ByteArray} {j k:Nat} {n:Int} {out:List Int} (h:QInv w wr q g s j n out) (E:q<w.heap.size) (B:pv wr D q s (k:Nat) n):QInv w D q g s k n out:=
 ⟨h.1.kept B.1 E,h.2.1.trans B.1,B.2⟩
theorem QInv.drew {w wr:World} {B g:Nat} {s:ByteArray} {j:Nat} {n:Int} {out:List Int} (h:QInv w wr B g s j n out) (q:Nat):QInv w (wr.drewN q) B g s j n out:=
 ⟨h.1,h.2.1.trans (zL q _),h.2.2⟩
theorem QInv.write {w wr q:World} {B g:Nat} {s:ByteArray} {j:Nat} {n:Int} {out l:List Int} (h:QInv w wr B g s j n out) (E:B<w.heap.size) (F:Bytes l) (G:IsBld w.heap.size g (c_ .u8 out++Lib.strCells (toS l)) q) (D:Below w.heap.size wr q):QInv w q B g s j n (out++l):=
 ⟨by rw[vX,←rM F];exact G,MG h.2.1 D,Blk.below h.2.2 D E⟩
theorem Mj (D:Nat) (s:ByteArray) (i:Nat) (n:Int) (w:World) (h:Rdr w D s i n) (hg:GW w D) (hi:i≤s.size) (hs:s.size≤100000):
  Calls prog 164 #[.pointer (some ⟨D,0,none⟩)] w (EscTells w D s n (nE (a_ s) i)):=by
 have I:=dM (j_ s)
 have HW:=dM h
 have aa:=h.lt
 obtain⟨R,hR⟩:=yaa (nE (a_ s) i)
 rw[←hR]
 by_cases G:f_ (a_ s) i≠34
 ·have N:Hid (R=([],i,50)):=dM (by rw[hR];unfold nE;exact dP G)
  have HS:=dM (fun(W:World) (F:Rdr W D s i n)=>H2 D s i n 34 W F hi (by omega) (by decide) G)
  clear hR G h
  go_enter func164,ntmps164
  go_wp2_with(first|(refine nG rfl (some 3) rfl _ rfl _ zp ?_;intro g w1 ap aq af;have bj:=dM af;have bd:=dM (Blk.grownN HW.out af);clear ap aq af;try go_frame)|(go_at_call 188;(with_reducible refine(HS.out _ bd.out).mono ?_);rintro e w2 ⟨rfl,az⟩))
  exact⟨rfl,EscTells.bad N.out ⟨rfl,(bj.out.but _).trans az⟩⟩
 ·have aB:f_ (a_ s) i=34:=Classical.byContradiction fun h=>G h
  have bn:i<s.size:=by rw[←I.out];exact oq (by omega)
  have aT:Hid (R=oc (a_ s) ((a_ s).length+1) (i+1) []):=dM (by rw[hR];unfold nE;exact dN (fun h=>h aB))
  have HS:=dM (fun(W:World) (F:Rdr W D s i n)=>Hc D s i n 34 W F (by omega) (by decide) aB)
  have am:=dM (aT.out.trans (Mh (a_ s) s.size _ ((a_ s).length+1) (i+1) [] (by rw[I.out];omega) (by rw[I.out];omega) (by omega) (by omega)))
  have ab:=Ij (l:=a_ s) (i:=i+1) (by rw[I.out];omega)
  rw[I.out]at ab
  have ah:=MI (l:=a_ s) (i:=i+1) (by rw[I.out];omega)
  have V:=dM (fun(W:World) (F:Rdr W D s (i+1:Nat) n) (hg:GW W D)=>qU D s (i+1) n W F hg (by omega) (by omega))
  unfold K_ at V
  obtain⟨L,Y⟩:=yaa (oX (a_ s) (i+1))
  obtain⟨sg,Z⟩:=yaa (nH (a_ s) (i+1))
  have ay:Bytes sg:=by rw[Z];exact Ms s _
  have aw:Hid (¬pH (f_ (a_ s) L)=true):=dM (by rw[Y];exact KY _ _ _ (dQ _))
  rw[←Y,←Z]at V am
  rw[←Y]at ab ah
  rw[←Z]at ah
  obtain⟨B,hB⟩:=yaa (na sg)
  rw[←hB]at V am
  have aH:=dM hg
  have bo:w.heap.size≤w.heap.size:=dQ _
  clear h hg G aB hR Y Z aT hB
  go_enter func164,ntmps164
  go_wp2_with(first|(refine nG rfl (some 3) rfl _ rfl _ zp ?_;intro g w1 ap aq af;have aG:Hid (QInv w w1 D g s i n []):=dM ⟨AW ap aq,af.but _,Blk.grownN HW.out af⟩;clear ap aq af;try go_frame)|(go_at_call 188;(with_reducible refine(HS.out _ aG.out.rdr).mono ?_);rintro e w2 ⟨rfl,E⟩;have U:=dM (aG.out.move aa E);clear E))
  refine(V.out _ U.out.rdr (aH.out.grown U.out.gr)).mono ?_
  rintro e w3 (⟨M,rfl,E⟩|⟨M,rfl,aO⟩)
  ·have aC:=dM (am.out.trans (dN M))
   rw[fs]at aC
   have av:=dM (U.out.move aa E)
   have aR:=dM (Ll w.heap.size g (c_ .u8 []) (toS sg) w3 av.out.bld (by rw[qc];simp[c_];omega) av.out.gr.size)
   clear M E
   go_wp2_with(go_at_call 109;(with_reducible refine(aR.out).mono ?_);rintro e w4 ⟨rfl,ad,ae⟩;have aV:=dM (av.out.write aa ay ad ae);clear ad ae)
   have aJ:sg.length≤2*L:=by omega
   have aI:L≤s.size:=ab.2
   clear ab ah
   go_loopw[] (fun wr=> ∃(j:Nat) (out:List Int),j≤s.size∧out.length≤2*j∧Bytes out∧ ¬pH (f_ (a_ s) j)=true∧R=oc (a_ s) ((a_ s).length+1) j out∧QInv w wr D g s j n out) (fun wr=>s.size-D6 wr D)
   case atStart=>exact⟨L,[]++sg,aI,by simpa using aJ,by simpa using ay,aw.out,by simpa using aC.out,aV.out⟩
   case round=>
    clear aG U av aV aR am aC aw V HS ay aJ aI
    obtain⟨j,out,hj,bl,aL,aA,aK,hq⟩:=hrel
    have aD:=dM aK
    have HQ:=dM hq
    have aW:=dM aL
    have HA:=dM (tk D s j n wr hq.rdr hj (by omega))
    have bf:=dM (Fy hq.rdr)
    clear aK hq aL
    by_cases ag:f_ (a_ s) j=92
    ·have O:=dM (aD.out.trans (qR (a_ s) (a_ s).length j out ag))
     have a6:j<s.size:=by rw[←I.out];exact oq (by omega)
     have ao:=dM (fun(W:World) (F:Rdr W D s j n) (hg:GW W D)=>vv D s j n W F hg a6 (by omega))
     have aP:=Dj (a_ s) j
     have ax:=dM (yd (a_ s) j)
     have ak:=Dk (a_ s) j
     have aj:=rn (l:=a_ s) (i:=j)
     have ai:=Am (l:=a_ s) (j:=j) (out:=out) (by rw[I.out];exact hj) ag
     rw[(BC (by decide)).2 ag]at HA
     unfold EscTells at ao
     obtain⟨T,hT⟩:=yaa (n9 (a_ s) j)
     rw[←hT]at O ao aP ax ak aj ai
     clear hT ag aA
     obtain⟨el,X,er⟩:=T
     simp only at O ao aP ax ak aj ai
     go_wp2_with(go_at_call 160;(with_reducible refine HA.out.mono ?_);rintro e w' ⟨rfl,q,rfl⟩;have Q:=dM (HQ.out.drew q))
     refine(ao.out _ Q.out.rdr (aH.out.grown Q.out.gr)).mono ?_
     rintro e w5 (⟨he,rfl,E⟩|⟨he,rfl,aN⟩)
     ·subst he
      obtain⟨bm,aZ⟩:=aj rfl
      rw[I.out]at aZ
      have ar:=dM (aD.out.trans (ai rfl))
      have ab:=Ij (l:=a_ s) (i:=X) (by rw[I.out];omega)
      rw[I.out]at ab
      have ah:=MI (l:=a_ s) (i:=X) (by rw[I.out];omega)
      have V:=dM (fun(W:World) (F:Rdr W D s (X:Nat) n) (hg:GW W D)=>qU D s X n W F hg (by omega) (by omega))
      unfold K_ at V
      obtain⟨L,Y⟩:=yaa (oX (a_ s) X)
      obtain⟨sg,Z⟩:=yaa (nH (a_ s) X)
      have aS:Hid (Bytes sg):=dM (by rw[Z];exact Ms s _)
      have aw:Hid (¬pH (f_ (a_ s) L)=true):=dM (by rw[Y];exact KY _ _ _ (dQ _))
      rw[←Y,←Z]at V ar
      rw[←Y]at ab ah
      rw[←Z]at ah
      obtain⟨B,hB⟩:=yaa (na sg)
      rw[←hB]at V ar
      have aF:=dM (Q.out.move aa E)
      have ba:=dM (Ll w.heap.size g (c_ .u8 out) (toS el) w5 aF.out.bld (by rw[qc,b_];omega) aF.out.gr.size)
      clear Y Z hB E ai ak O ao aj
      go_wp2_with(go_at_call 109;(with_reducible refine(ba.out).mono ?_);rintro e w6 ⟨rfl,ad,ae⟩;have au:=dM (aF.out.write aa ax.out ad ae);clear ad ae)
      refine(V.out _ au.out.rdr (aH.out.grown au.out.gr)).mono ?_
      rintro e w7 (⟨M,rfl,E⟩|⟨M,rfl,aM⟩)
      ·have bc:=dM (ar.out.trans (dN M))
       have aE:=dM (au.out.move aa E)
       have bk:(out++el).length≤2*X:=by rw[dS];omega
       have a8:=dM (Ll w.heap.size g (c_ .u8 (out++el)) (toS sg) w7 aE.out.bld (by rw[qc,b_];omega) aE.out.gr.size)
       clear M E
       go_wp2_with(go_at_call 109;(with_reducible refine(a8.out).mono ?_);rintro e w8 ⟨rfl,ad,ae⟩;have aU:=dM (aE.out.write aa aS.out ad ae);clear ad ae)
       go_roundw
       case rel=>exact⟨L,out++el++sg,ab.2,by rw[dS];omega,(aW.out.append ax.out).append aS.out,aw.out,bc.out,aU.out⟩
       case measure=>rw[Fy aU.out.rdr,bf.out];omega
      ·have N:Hid (R=([],X+B,50)):=dM (ar.out.trans (dP M))
       have bg:=dM aM
       clear M aM
       go_wp2
       exact⟨rfl,EscTells.bad N.out ⟨rfl,au.out.gr.trans bg.out⟩⟩
     ·have a7:er=50:=ak.resolve_left he
      subst a7
      have N:Hid (R=([],X,50)):=dM (O.out.trans (dP he))
      have bh:=dM aN
      clear aN aj ai ak he O
      go_wp2
      exact⟨rfl,EscTells.bad N.out ⟨rfl,Q.out.gr.trans bh.out⟩⟩
    ·have O:=dM (aD.out.trans (xu (a_ s) (a_ s).length j out aA ag))
     obtain⟨aY,_⟩:=zt (G5 (l:=a_ s) (i:=j) (c:=92) (by decide) ag)
     obtain⟨x,hx⟩:=yaa (oQ (a_ s) j)
     rw[←hx]at HA aY
     clear hx ag aA
     by_cases G:f_ (a_ s) j=34
     ·have N:Hid (R=(out,j+1,0)):=dM (O.out.trans (dP G))
      have HS:=dM (fun(W:World) (F:Rdr W D s j n)=>Hc D s j n 34 W F (by omega) (by decide) G)
      clear O G
      go_wp2_with(first|(go_at_call 160;(with_reducible refine HA.out.mono ?_);rintro e w' ⟨rfl,q,rfl⟩;have Q:=dM (HQ.out.drew q))|(go_at_call 188;(with_reducible refine(HS.out _ Q.out.rdr).mono ?_);rintro e w2 ⟨rfl,E⟩;have U:=dM (Q.out.move aa E);have bb:=dM (Bk w.heap.size g out w2 aW.out U.out.bld U.out.gr.size);clear E)|(go_at_call 83;(with_reducible refine bb.out.mono ?_);rintro e w3 ⟨rfl,aQ⟩;have aX:=dM aQ;clear aQ))
      go_ret
      exact EscTells.ok N.out rfl ⟨MG U.out.gr aX.out,Blk.below U.out.rdr aX.out aa⟩
     ·have N:Hid (R=([],j,50)):=dM (O.out.trans (dN G))
      have HS:=dM (fun(W:World) (F:Rdr W D s j n)=>H2 D s j n 34 W F hj (by omega) (by decide) G)
      clear O G
      go_wp2_with(first|(go_at_call 160;(with_reducible refine HA.out.mono ?_);rintro e w' ⟨rfl,q,rfl⟩;have Q:=dM (HQ.out.drew q))|(go_at_call 188;(with_reducible refine(HS.out _ Q.out.rdr).mono ?_);rintro e w2 ⟨rfl,az⟩))
      exact⟨rfl,EscTells.bad N.out ⟨rfl,Q.out.gr.trans az⟩⟩
  ·have N:Hid (R=([],i+1+B,50)):=dM (am.out.trans (dP M))
   have bi:=dM aO
   clear M aO
   go_wp2
   exact⟨rfl,EscTells.bad N.out ⟨rfl,U.out.gr.trans bi.out⟩⟩
theorem D8:(prog.info? 63).map (·.zero)=some (some (.agg zeros5.toArray)):=by kernel_rfl
def v_ (l:List Int):Nat→Nat→Int→VR
 |0=>fun i left=>(zeroJ,i,left,51)
 |d+1=>nV l (nj l d)
theorem Ec (l:List Int) (d i:Nat) (left:Int):nj l d i left=mT l (v_ l d) i left:=by cases d<;>rfl
theorem Rdr.counts {w:World} {q:Nat} {s:ByteArray} {i n:Int} (h:Rdr w q s i n) (m:Int):Rdr (w.setCell ⟨q,2,none⟩ (.int .i64 m)) q s i m:=Blk.setCell h 2 (.int .i64 m)
theorem F7 {w:World} {q:Nat} {s:ByteArray} {i m n:Int} (h:Rdr w q s i m) (e:m=n):Rdr w q s i n:=e▸h
theorem sv: ∀n:Fin 256,decide (0≤Lib.indexByte [110,116,102,34,91,123,45,48,49,50,51,52,53,54,55,56,57] n.val.toUInt8)=pA (n.val:Int):=by decide+kernel
theorem KM {c:Int} (h0:0≤c) (h1:c≤255):0≤Lib.indexByte [110,116,102,34,91,123,45,48,49,50,51,52,53,54,55,56,57] c.toNat.toUInt8↔pA c=true:=by
 obtain⟨n,rfl⟩:=gv h0
 have:=sv ⟨n,by omega⟩
 rw[kP,←this,eb]
theorem KJ (l:List Int) (i:Nat):pA (oQ l i)=pA (f_ l i):=by
 unfold oQ;split
 ·rename_i h;rw[h];decide
 ·rfl
theorem Eg (c:Int) (W:World):Calls prog 161 #[.string ⟨#[110,116,102,34,91,123,45,48,49,50,51,52,53,54,55,56,57]⟩,.int .u8 c] W fun e w'=>e= .returned (.int .i64 (Lib.indexByte [110,116,102,34,91,123,45,48,49,50,51,52,53,54,55,56,57] c.toNat.toUInt8))∧w'=W:=
 Tryz.strings_IndexByte ⟨#[110,116,102,34,91,123,45,48,49,50,51,52,53,54,55,56,57]⟩ c W
theorem ValPost.bad {w:World} {q:Nat} {s:ByteArray} {r:VR} {e:Ending} {w':World} {v:J} {p:Nat} {left er:Int} (B:r=(v,p,left,er)) (D:er≠0) (h:zF w q (p:Nat) er e w'):ValPost w q s r e w':=by
 rw[B];exact .inr ⟨D,h⟩
theorem F3 {w B:World} {g E:Nat} {s:ByteArray} {q:Nat} {n:Int} {r:VR} {j:J} {O N M L I a0 a1 a2 a3 a4:Value} (Y:w.heap.size≤g) (X:E<w.heap.size) (W:w.grownBy B (some E)) (R:Rdr B E s (q:Nat) n) (D:Blk B g 63 [O,N,M,L,I])
  (Q:RepS B (fun b=>w.heap.size≤b∧b≠g) j (.agg #[a0,a1,a2,a3,a4])) (U:q≤s.size) (er:r=(j,d_ (a_ s) q,256-n,0)):
  Blk (((((B.setCell ⟨g,0,none⟩ a0).setCell ⟨g,1,none⟩ a1).setCell ⟨g,2,none⟩ a2).setCell ⟨g,3,none⟩ a3).setCell ⟨g,4,none⟩ a4) g 63 [a0,a1,a2,a3,a4]∧
  ValPost w E s r (.returned (.agg [a0,a1,a2,a3,a4].toArray)) (((((B.setCell ⟨g,0,none⟩ a0).setCell ⟨g,1,none⟩ a1).setCell ⟨g,2,none⟩ a2).setCell ⟨g,3,none⟩ a3).setCell ⟨g,4,none⟩ a4):=by
 obtain⟨h1,F⟩:=BP D a0 a1 a2 a3 a4
 refine⟨h1,?_⟩
 rw[er]
 refine .inl ⟨rfl,_,q,rfl,?_,U,rfl,W.andThen F (by intro j G;injection G with G;left;omega),?_⟩
 ·exact RepS.keeps (S:=fun b=>w.heap.size≤b∧b≠g) ⟨F.size,fun b D V=>F.block b V (by intro e;injection e with e;exact D.2 e)⟩ (fun b D _=>D.1) _ _ Q
 ·rw[show 256-(256-n)=n by omega]
  exact Blk.grown R F (by intro e;injection e with e;omega)
theorem wG (s:ByteArray) (B d:Nat) (hs:s.size≤10000) (hd:d≤8) (i:Nat) (left:Int) (w:World) (hi:i≤s.size) (h0:0≤left) (h1:left≤256) (D:Rdr w B s i (256-left)) (Y:GW w B) (F: ¬pA (f_ (a_ s) (d_ (a_ s) i))=true):
  Calls prog 128 #[.pointer (some ⟨B,0,none⟩),.int .i64 (9-(d:Int))] w (ValPost w B s (nj (a_ s) d (d_ (a_ s) i) left)):=by
 have aa:=dM (j_ s)
 have HW:=dM D
 have ar:=dM Y
 have af:=D.lt
 have ad:=dM (fun(W:World) (D:Rdr W B s i (256-left))=>wn B s i _ W D hi (by omega))
 have E:=oS (l:=a_ s) (i:=i) (by rw[aa.out];exact hi)
 rw[aa.out]at E
 obtain⟨k,V⟩:=yaa (d_ (a_ s) i)
 rw[←V]at ad E F⊢
 have ag:=E.2
 have ae:=dM (fun(W:World) (D:Rdr W B s k (256-left))=>tk B s k _ W D ag (by omega))
 obtain⟨r,I⟩:=yaa (nj (a_ s) d k left)
 have U:r=mT (a_ s) (v_ (a_ s) d) k left:=I.trans (Ec (a_ s) d k left)
 rw[←I]
 clear D Y V E I
 have HV:Hid (r=(zeroJ,k,left,50)):=dM (U.trans (by unfold mT;exact dP F))
 have G:=G4 s k
 have M: ¬pA (oQ (a_ s) k)=true:=by rw[KJ];exact F
 obtain⟨x,R⟩:=yaa (oQ (a_ s) k)
 rw[←R]at ae G M
 have N:=KM G.1 G.2
 have ab:=dM (fun W:World=>Eg x W)
 obtain⟨X,hX⟩:=yaa (Lib.indexByte [110,116,102,34,91,123,45,48,49,50,51,52,53,54,55,56,57] x.toNat.toUInt8)
 rw[←hX]at ab N
 have ap:X<0:=by rcases mH X 0 with h|h;exact h;exact absurd (N.1 h) M
 clear U F G M R N hX
 go_enter jB,jh
 go_wp2_with(first|(refine nG rfl (some 4) rfl _ rfl _ D8 ?_;intro g w1 ah Z O;have ao:=dM Z;have am:=dM O;have aj:=dM (Blk.grownN HW.out O);have aq:=dX af ah;clear Z O;try go_frame)|(go_at_call 129;(with_reducible refine(ad.out _ aj.out).mono ?_);rintro e w2 ⟨rfl,Q,L⟩;have ak:=dM ((am.out.but (some B)).trans Q);have ai:=dM L;have au:=dM (Blk.grown ao.out Q (by intro e;injection e with e;omega));obtain⟨⟨c0,c1,c2⟩,f0,f1,f2⟩:=Rdr.cells L;clear Q L)|(go_at_call 160;(with_reducible refine(ae.out _ ai.out).mono ?_);rintro e w' ⟨rfl,q,rfl⟩)|(go_at_call 161;(with_reducible refine(ab.out _).mono ?_);rintro e w' ⟨rfl,rfl⟩)|(go_at_call 130;(with_reducible refine(wu _ _ _).mono ?_);rintro e w' ⟨rfl,rfl⟩))
 exact⟨rfl,ValPost.bad HV.out (by decide) ⟨rfl,ak.out.trans (zL q _)⟩⟩
theorem wH (s:ByteArray) (B d:Nat) (hs:s.size≤10000) (hd:d≤8) (i:Nat) (left:Int) (w:World) (hi:i≤s.size) (h0:0≤left) (h1:left≤256) (D:Rdr w B s i (256-left)) (Y:GW w B) (F:pA (f_ (a_ s) (d_ (a_ s) i))=true) (hl:left=0):
  Calls prog 128 #[.pointer (some ⟨B,0,none⟩),.int .i64 (9-(d:Int))] w (ValPost w B s (nj (a_ s) d (d_ (a_ s) i) left)):=by
 have aa:=dM (j_ s)
 have HW:=dM D
 have ar:=dM Y
 have af:=D.lt
 have ad:=dM (fun(W:World) (D:Rdr W B s i (256-left))=>wn B s i _ W D hi (by omega))
 have E:=oS (l:=a_ s) (i:=i) (by rw[aa.out];exact hi)
 rw[aa.out]at E
 obtain⟨k,V⟩:=yaa (d_ (a_ s) i)
 rw[←V]at ad E F⊢
 have ag:=E.2
 have ae:=dM (fun(W:World) (D:Rdr W B s k (256-left))=>tk B s k _ W D ag (by omega))
 obtain⟨r,I⟩:=yaa (nj (a_ s) d k left)
 have U:r=mT (a_ s) (v_ (a_ s) d) k left:=I.trans (Ec (a_ s) d k left)
 rw[←I]
 clear D Y V E I
 subst hl
 have HV:Hid (r=(zeroJ,k, -1,53)):=dM (U.trans (by unfold mT;rw[dN (fun h=>h F)];exact dP (by decide)))
 have G:=G4 s k
 have M:pA (oQ (a_ s) k)=true:=by rw[KJ];exact F
 obtain⟨x,R⟩:=yaa (oQ (a_ s) k)
 rw[←R]at ae G M
 have N:=KM G.1 G.2
 have ab:=dM (fun W:World=>Eg x W)
 obtain⟨X,hX⟩:=yaa (Lib.indexByte [110,116,102,34,91,123,45,48,49,50,51,52,53,54,55,56,57] x.toNat.toUInt8)
 rw[←hX]at ab N
 have ap: ¬X<0:=by have:=N.2 M;omega
 clear U F G M R N hX
 go_enter jB,jh
 go_wp2_with(first|(refine nG rfl (some 4) rfl _ rfl _ D8 ?_;intro g w1 ah Z O;have ao:=dM Z;have am:=dM O;have aj:=dM (Blk.grownN HW.out O);have aq:=dX af ah;clear Z O;try go_frame)|(go_at_call 129;(with_reducible refine(ad.out _ aj.out).mono ?_);rintro e w2 ⟨rfl,Q,L⟩;have ak:=dM ((am.out.but (some B)).trans Q);have ai:=dM L;have au:=dM (Blk.grown ao.out Q (by intro e;injection e with e;omega));obtain⟨⟨c0,c1,c2⟩,f0,f1,f2⟩:=Rdr.cells L;clear Q L)|(go_at_call 160;(with_reducible refine(ae.out _ ai.out).mono ?_);rintro e w' ⟨rfl,q,rfl⟩)|(go_at_call 161;(with_reducible refine(ab.out _).mono ?_);rintro e w' ⟨rfl,rfl⟩)|(go_at_call 130;(with_reducible refine(wu _ _ _).mono ?_);rintro e w' ⟨rfl,rfl⟩))
 exact⟨rfl,ValPost.bad HV.out (by decide) ⟨rfl,ak.out.trans (oM _ q B 2 _)⟩⟩
theorem wF (s:ByteArray) (B d:Nat) (hs:s.size≤10000) (hd:d≤8) (i:Nat) (left:Int) (w:World) (hi:i≤s.size) (h0:0≤left) (h1:left≤256) (F:Rdr w B s i (256-left)) (hg:GW w B) (hl:1≤left) (L:f_ (a_ s) (d_ (a_ s) i)=110):
  Calls prog 128 #[.pointer (some ⟨B,0,none⟩),.int .i64 (9-(d:Int))] w (ValPost w B s (nj (a_ s) d (d_ (a_ s) i) left)):=by
 have M:=dM (j_ s)
 have HW:=dM F
 have aD:=dM hg
 have af:=F.lt
 have ap:=dM (fun(W:World) (F:Rdr W B s i (256-left))=>wn B s i _ W F hi (by omega))
 have N:=oS (l:=a_ s) (i:=i) (by rw[M.out];exact hi)
 rw[M.out]at N
 obtain⟨k,hk⟩:=yaa (d_ (a_ s) i)
 rw[←hk]at ap N L⊢
 have U:=N.2
 have aq:=dM (fun(W:World) (F:Rdr W B s k (256-left))=>tk B s k _ W F U (by omega))
 obtain⟨r,Q⟩:=yaa (nj (a_ s) d k left)
 have ae:r=mT (a_ s) (v_ (a_ s) d) k left:=Q.trans (Ec (a_ s) d k left)
 rw[←Q]
 clear F hg hk N Q
 have HV:Hid (r=pj (a_ s) (left-1) zeroJ (oA (a_ s) k [110,117,108,108])):=dM (ae.trans (by unfold mT;rw[dN (show ¬ ¬pA (f_ (a_ s) k)=true by rw[L];decide),dN (show ¬left-1<0 by omega)];rw[dN (by omega),dP L]))
 have aa:=dM (fun(W:World) (F:Rdr W B s k (256-(left-1)))=>KG B s ⟨#[110,117,108,108]⟩ k _ W F U (by omega) (by decide) (by decide))
 rw[show a_ ⟨#[110,117,108,108]⟩=[110,117,108,108]from rfl]at aa
 obtain⟨T,hT⟩:=yaa (oA (a_ s) k [110,117,108,108])
 have aj:T.2=0→T.1≤s.size:=fun _=>by rw[hT,←M.out];exact Fx (by decide) (by rw[M.out];exact U)
 rw[←hT]at HV aa
 have ar:=dM aj
 have aA:k<s.size:=by rw[←M.out];exact oq (by omega)
 rw[(BC (by decide)).2 L]at aq
 have am:=dM (fun W:World=>Eg 110 W)
 obtain⟨X,Z⟩:=yaa (Lib.indexByte [110,116,102,34,91,123,45,48,49,50,51,52,53,54,55,56,57] ((110:Int).toNat.toUInt8))
 rw[←Z]at am
 have aC: ¬X<0:=by rw[Z];decide
 have az:decide ((256:Int)<256-left+1)=false:=dT (by omega)
 clear Z
 clear ae L hT aj
 go_enter jB,jh
 go_wp2_with(first|(refine nG rfl (some 4) rfl _ rfl _ D8 ?_;intro g w1 ah ai V;have ay:=dM ai;have aw:=dM V;have av:=dM (Blk.grownN HW.out V);have aB:=dX af ah;clear ai V;try go_frame)|(go_at_call 129;(with_reducible refine(ap.out _ av.out).mono ?_);rintro e O ⟨rfl,Y,R⟩;have ao:=dM ((aw.out.but (some B)).trans Y);have ak:=dM R;have ax:=dM (Blk.grown ay.out Y (by intro e;injection e with e;omega));obtain⟨⟨c0,c1,c2⟩,f0,f1,f2⟩:=Rdr.cells R;clear Y R)|(go_at_call 160;(with_reducible refine(aq.out _ ak.out).mono ?_);rintro e w' ⟨rfl,q,rfl⟩)|(go_at_call 161;(with_reducible refine(am.out _).mono ?_);rintro e w' ⟨rfl,rfl⟩))
 refine(aa.out _ (F7 (Rdr.counts (ak.out.drewN q) _) (by omega))).mono ?_
 rintro e E (⟨G,rfl,I,ag⟩|⟨G,rfl,I⟩)
 ·have ab:Hid (r=(zeroJ,d_ (a_ s) T.1,left-1,0)):=dM (HV.out.trans (by unfold pj;exact dN (fun h=>h G)))
  have hq:=ar.out G
  have ad:=dM ((ao.out.trans (oM O q B 2 (.int .i64 (256-left+1)))).trans I)
  have au:=dM ag
  have D:=Blk.grown (Blk.grown ax.out (oM O q B 2 (.int .i64 (256-left+1))) (by intro e;injection e with e;omega)) I (by intro e;injection e with e;omega)
  clear G I ag
  obtain⟨b0,b1,b2,b3,b4⟩:E.cell? ⟨g,0,none⟩=some (.int .i64 0)∧E.cell? ⟨g,1,none⟩=some (.int .i64 0)∧E.cell? ⟨g,2,none⟩=some (.string ⟨#[]⟩)∧E.cell? ⟨g,3,none⟩=some (.slice none 0 0)∧E.cell? ⟨g,4,none⟩=some (.slice none 0 0):=⟨D.cell 0,D.cell 1,D.cell 2,D.cell 3,D.cell 4⟩
  obtain⟨z0,z1,z2,z3,z4⟩:E.frozen? ⟨g,0,none⟩=false∧E.frozen? ⟨g,1,none⟩=false∧E.frozen? ⟨g,2,none⟩=false∧E.frozen? ⟨g,3,none⟩=false∧E.frozen? ⟨g,4,none⟩=false:=⟨D.frozen 0,D.frozen 1,D.frozen 2,D.frozen 3,D.frozen 4⟩
  have HF:=dM (F3 (r:=r) ah af ad.out au.out D (j:=zeroJ) (a0:= .int .i64 0) (a1:= .int .i64 0) (a2:= .string ⟨#[]⟩) (a3:= .slice none 0 0) (a4:= .slice none 0 0) (RepS.zero _ _) hq (ab.out.trans (by rw[show 256-(256-(left-1))=left-1 by omega]<;>rfl)))
  clear D
  go_wp2
  refine dW (BH jw _ _ g _ _ _ rfl HF.out.1 ed rfl m8) rfl HF.out.2
 ·have ab:Hid (r=(zeroJ,T.1,left-1,T.2)):=dM (HV.out.trans (by unfold pj;exact dP G))
  have ad:=dM I
  have HT:=dM G
  clear G I
  go_wp2
  exact⟨rfl,ValPost.bad ab.out HT.out ⟨rfl,(ao.out.trans (oM O q B 2 (.int .i64 (256-left+1)))).trans ad.out⟩⟩
theorem wD (s:ByteArray) (D d:Nat) (hs:s.size≤10000) (hd:d≤8) (i:Nat) (left:Int) (w:World) (hi:i≤s.size) (h0:0≤left) (h1:left≤256) (F:Rdr w D s i (256-left)) (hg:GW w D) (hl:1≤left) (L:f_ (a_ s) (d_ (a_ s) i)=116):
  Calls prog 128 #[.pointer (some ⟨D,0,none⟩),.int .i64 (9-(d:Int))] w (ValPost w D s (nj (a_ s) d (d_ (a_ s) i) left)):=by
 have M:=dM (j_ s)
 have HW:=dM F
 have aG:=dM hg
 have ag:=F.lt
 have ar:=dM (fun(W:World) (F:Rdr W D s i (256-left))=>wn D s i _ W F hi (by omega))
 have N:=oS (l:=a_ s) (i:=i) (by rw[M.out];exact hi)
 rw[M.out]at N
 obtain⟨k,hk⟩:=yaa (d_ (a_ s) i)
 rw[←hk]at ar N L⊢
 have U:=N.2
 have av:=dM (fun(W:World) (F:Rdr W D s k (256-left))=>tk D s k _ W F U (by omega))
 obtain⟨r,Q⟩:=yaa (nj (a_ s) d k left)
 have af:r=mT (a_ s) (v_ (a_ s) d) k left:=Q.trans (Ec (a_ s) d k left)
 rw[←Q]
 clear F hg hk N Q
 have HV:Hid (r=pj (a_ s) (left-1) (.mk 1 1 ⟨#[]⟩ [] []) (oA (a_ s) k [116,114,117,101])):=dM (af.trans (by unfold mT;rw[dN (show ¬ ¬pA (f_ (a_ s) k)=true by rw[L];decide),dN (show ¬left-1<0 by omega)];rw[dN (by omega),dN (by omega),dP L]))
 have aa:=dM (fun(W:World) (F:Rdr W D s k (256-(left-1)))=>KG D s ⟨#[116,114,117,101]⟩ k _ W F U (by omega) (by decide) (by decide))
 rw[show a_ ⟨#[116,114,117,101]⟩=[116,114,117,101]from rfl]at aa
 obtain⟨T,hT⟩:=yaa (oA (a_ s) k [116,114,117,101])
 have ak:T.2=0→T.1≤s.size:=fun _=>by rw[hT,←M.out];exact Fx (by decide) (by rw[M.out];exact U)
 rw[←hT]at HV aa
 have ax:=dM ak
 have aD:k<s.size:=by rw[←M.out];exact oq (by omega)
 rw[(BC (by decide)).2 L]at av
 have ap:=dM (fun W:World=>Eg 116 W)
 obtain⟨X,Z⟩:=yaa (Lib.indexByte [110,116,102,34,91,123,45,48,49,50,51,52,53,54,55,56,57] ((116:Int).toNat.toUInt8))
 rw[←Z]at ap
 have aF: ¬X<0:=by rw[Z];decide
 have aC:decide ((256:Int)<256-left+1)=false:=dT (by omega)
 clear Z
 clear af L hT ak
 go_enter jB,jh
 go_wp2_with(first|(refine nG rfl (some 4) rfl _ rfl _ D8 ?_;intro g w1 ai aj V;have aB:=dM aj;have az:=dM V;have ay:=dM (Blk.grownN HW.out V);have aE:=dX ag ai;clear aj V;try go_frame)|(go_at_call 129;(with_reducible refine(ar.out _ ay.out).mono ?_);rintro e O ⟨rfl,Y,R⟩;have aq:=dM ((az.out.but (some D)).trans Y);have ao:=dM R;have aA:=dM (Blk.grown aB.out Y (by intro e;injection e with e;omega));obtain⟨⟨c0,c1,c2⟩,f0,f1,f2⟩:=Rdr.cells R;clear Y R)|(go_at_call 160;(with_reducible refine(av.out _ ao.out).mono ?_);rintro e w' ⟨rfl,q,rfl⟩)|(go_at_call 161;(with_reducible refine(ap.out _).mono ?_);rintro e w' ⟨rfl,rfl⟩))
 refine(aa.out _ (F7 (Rdr.counts (ao.out.drewN q) _) (by omega))).mono ?_
 rintro e w5 (⟨G,rfl,I,ah⟩|⟨G,rfl,I⟩)
 ·have ab:Hid (r=((.mk 1 1 ⟨#[]⟩ [] []),d_ (a_ s) T.1,left-1,0)):=dM (HV.out.trans (by unfold pj;exact dN (fun h=>h G)))
  have hq:=ax.out G
  have ad:=dM ((aq.out.trans (oM O q D 2 (.int .i64 (256-left+1)))).trans I)
  have am:=dM ah
  have aw:=Blk.grown (Blk.grown aA.out (oM O q D 2 (.int .i64 (256-left+1))) (by intro e;injection e with e;omega)) I (by intro e;injection e with e;omega)
  clear G I ah
  have au:=dM aw
  go_wp2_with fail
  refine(vH true _).mono ?_
  rintro e E ⟨he,B⟩
  rw[show((if true=true then 1 else 0:Int))=1 from rfl]at he
  subst he
  have ae:=dM B
  clear B
  have B:=Blk.below au.out ae.out au.out.lt
  obtain⟨b0,b1,b2,b3,b4⟩:E.cell? ⟨g,0,none⟩=some (.int .i64 0)∧E.cell? ⟨g,1,none⟩=some (.int .i64 0)∧E.cell? ⟨g,2,none⟩=some (.string ⟨#[]⟩)∧E.cell? ⟨g,3,none⟩=some (.slice none 0 0)∧E.cell? ⟨g,4,none⟩=some (.slice none 0 0):=⟨B.cell 0,B.cell 1,B.cell 2,B.cell 3,B.cell 4⟩
  obtain⟨z0,z1,z2,z3,z4⟩:E.frozen? ⟨g,0,none⟩=false∧E.frozen? ⟨g,1,none⟩=false∧E.frozen? ⟨g,2,none⟩=false∧E.frozen? ⟨g,3,none⟩=false∧E.frozen? ⟨g,4,none⟩=false:=⟨B.frozen 0,B.frozen 1,B.frozen 2,B.frozen 3,B.frozen 4⟩
  have HF:=dM (F3 (r:=r) ai ag (ad.out.trans (od ae.out _)) (Blk.below am.out ae.out am.out.lt) B (RepS.plain _ _ 1 1 ⟨#[]⟩ (by decide)) hq (ab.out.trans (by rw[show 256-(256-(left-1))=left-1 by omega]<;>rfl)))
  clear B
  go_wp2
  refine dW (BH jw _ _ g _ _ _ rfl HF.out.1 ed rfl m8) rfl HF.out.2
 ·have ab:Hid (r=(zeroJ,T.1,left-1,T.2)):=dM (HV.out.trans (by unfold pj;exact dP G))
  have ad:=dM I
  have HT:=dM G
  clear G I
  go_wp2
  exact⟨rfl,ValPost.bad ab.out HT.out ⟨rfl,(aq.out.trans (oM O q D 2 (.int .i64 (256-left+1)))).trans ad.out⟩⟩
theorem tw (s:ByteArray) (D d:Nat) (hs:s.size≤10000) (hd:d≤8) (i:Nat) (left:Int) (w:World) (hi:i≤s.size) (h0:0≤left) (h1:left≤256) (F:Rdr w D s i (256-left)) (hg:GW w D) (hl:1≤left) (L:f_ (a_ s) (d_ (a_ s) i)=102):
  Calls prog 128 #[.pointer (some ⟨D,0,none⟩),.int .i64 (9-(d:Int))] w (ValPost w D s (nj (a_ s) d (d_ (a_ s) i) left)):=by
 have M:=dM (j_ s)
 have HW:=dM F
 have aG:=dM hg
 have ag:=F.lt
 have ar:=dM (fun(W:World) (F:Rdr W D s i (256-left))=>wn D s i _ W F hi (by omega))
 have N:=oS (l:=a_ s) (i:=i) (by rw[M.out];exact hi)
 rw[M.out]at N
 obtain⟨k,hk⟩:=yaa (d_ (a_ s) i)
 rw[←hk]at ar N L⊢
 have U:=N.2
 have av:=dM (fun(W:World) (F:Rdr W D s k (256-left))=>tk D s k _ W F U (by omega))
 obtain⟨r,Q⟩:=yaa (nj (a_ s) d k left)
 have af:r=mT (a_ s) (v_ (a_ s) d) k left:=Q.trans (Ec (a_ s) d k left)
 rw[←Q]
 clear F hg hk N Q
 have HV:Hid (r=pj (a_ s) (left-1) (.mk 1 0 ⟨#[]⟩ [] []) (oA (a_ s) k [102,97,108,115,101])):=dM (af.trans (by unfold mT;rw[dN (show ¬ ¬pA (f_ (a_ s) k)=true by rw[L];decide),dN (show ¬left-1<0 by omega)];rw[dN (by omega),dN (by omega),dN (by omega),dP L]))
 have aa:=dM (fun(W:World) (F:Rdr W D s k (256-(left-1)))=>KG D s ⟨#[102,97,108,115,101]⟩ k _ W F U (by omega) (by decide) (by decide))
 rw[show a_ ⟨#[102,97,108,115,101]⟩=[102,97,108,115,101]from rfl]at aa
 obtain⟨T,hT⟩:=yaa (oA (a_ s) k [102,97,108,115,101])
 have ak:T.2=0→T.1≤s.size:=fun _=>by rw[hT,←M.out];exact Fx (by decide) (by rw[M.out];exact U)
 rw[←hT]at HV aa
 have ax:=dM ak
 have aD:k<s.size:=by rw[←M.out];exact oq (by omega)
 rw[(BC (by decide)).2 L]at av
 have ap:=dM (fun W:World=>Eg 102 W)
 obtain⟨X,Z⟩:=yaa (Lib.indexByte [110,116,102,34,91,123,45,48,49,50,51,52,53,54,55,56,57] ((102:Int).toNat.toUInt8))
 rw[←Z]at ap
 have aF: ¬X<0:=by rw[Z];decide
 have aC:decide ((256:Int)<256-left+1)=false:=dT (by omega)
 clear Z
 clear af L hT ak
 go_enter jB,jh
 go_wp2_with(first|(refine nG rfl (some 4) rfl _ rfl _ D8 ?_;intro g w1 ai aj V;have aB:=dM aj;have az:=dM V;have ay:=dM (Blk.grownN HW.out V);have aE:=dX ag ai;clear aj V;try go_frame)|(go_at_call 129;(with_reducible refine(ar.out _ ay.out).mono ?_);rintro e O ⟨rfl,Y,R⟩;have aq:=dM ((az.out.but (some D)).trans Y);have ao:=dM R;have aA:=dM (Blk.grown aB.out Y (by intro e;injection e with e;omega));obtain⟨⟨c0,c1,c2⟩,f0,f1,f2⟩:=Rdr.cells R;clear Y R)|(go_at_call 160;(with_reducible refine(av.out _ ao.out).mono ?_);rintro e w' ⟨rfl,q,rfl⟩)|(go_at_call 161;(with_reducible refine(ap.out _).mono ?_);rintro e w' ⟨rfl,rfl⟩))
 refine(aa.out _ (F7 (Rdr.counts (ao.out.drewN q) _) (by omega))).mono ?_
 rintro e w5 (⟨G,rfl,I,ah⟩|⟨G,rfl,I⟩)
 ·have ab:Hid (r=((.mk 1 0 ⟨#[]⟩ [] []),d_ (a_ s) T.1,left-1,0)):=dM (HV.out.trans (by unfold pj;exact dN (fun h=>h G)))
  have hq:=ax.out G
  have ad:=dM ((aq.out.trans (oM O q D 2 (.int .i64 (256-left+1)))).trans I)
  have am:=dM ah
  have aw:=Blk.grown (Blk.grown aA.out (oM O q D 2 (.int .i64 (256-left+1))) (by intro e;injection e with e;omega)) I (by intro e;injection e with e;omega)
  clear G I ah
  have au:=dM aw
  go_wp2_with fail
  refine(vH false _).mono ?_
  rintro e E ⟨he,B⟩
  rw[show((if false=true then 1 else 0:Int))=0 from rfl]at he
  subst he
  have ae:=dM B
  clear B
  have B:=Blk.below au.out ae.out au.out.lt
  obtain⟨b0,b1,b2,b3,b4⟩:E.cell? ⟨g,0,none⟩=some (.int .i64 0)∧E.cell? ⟨g,1,none⟩=some (.int .i64 0)∧E.cell? ⟨g,2,none⟩=some (.string ⟨#[]⟩)∧E.cell? ⟨g,3,none⟩=some (.slice none 0 0)∧E.cell? ⟨g,4,none⟩=some (.slice none 0 0):=⟨B.cell 0,B.cell 1,B.cell 2,B.cell 3,B.cell 4⟩
  obtain⟨z0,z1,z2,z3,z4⟩:E.frozen? ⟨g,0,none⟩=false∧E.frozen? ⟨g,1,none⟩=false∧E.frozen? ⟨g,2,none⟩=false∧E.frozen? ⟨g,3,none⟩=false∧E.frozen? ⟨g,4,none⟩=false:=⟨B.frozen 0,B.frozen 1,B.frozen 2,B.frozen 3,B.frozen 4⟩
  have HF:=dM (F3 (r:=r) ai ag (ad.out.trans (od ae.out _)) (Blk.below am.out ae.out am.out.lt) B (RepS.plain _ _ 1 0 ⟨#[]⟩ (by decide)) hq (ab.out.trans (by rw[show 256-(256-(left-1))=left-1 by omega]<;>rfl)))
  clear B
  go_wp2
  refine dW (BH jw _ _ g _ _ _ rfl HF.out.1 ed rfl m8) rfl HF.out.2
 ·have ab:Hid (r=(zeroJ,T.1,left-1,T.2)):=dM (HV.out.trans (by unfold pj;exact dP G))
  have ad:=dM I
  have HT:=dM G
  clear G I
  go_wp2
  exact⟨rfl,ValPost.bad ab.out HT.out ⟨rfl,(aq.out.trans (oM O q D 2 (.int .i64 (256-left+1)))).trans ad.out⟩⟩
theorem wE (s:ByteArray) (B d:Nat) (hs:s.size≤10000) (hd:d≤8) (i:Nat) (left:Int) (w:World) (hi:i≤s.size) (h0:0≤left) (h1:left≤256) (F:Rdr w B s i (256-left)) (O:GW w B) (hl:1≤left) (L:f_ (a_ s) (d_ (a_ s) i)=34):
  Calls prog 128 #[.pointer (some ⟨B,0,none⟩),.int .i64 (9-(d:Int))] w (ValPost w B s (nj (a_ s) d (d_ (a_ s) i) left)):=by
 have U:=dM (j_ s)
 have HW:=dM F
 have aA:=dM O
 have aj:=F.lt
 have av:=dM (fun(W:World) (F:Rdr W B s i (256-left))=>wn B s i _ W F hi (by omega))
 have N:=oS (l:=a_ s) (i:=i) (by rw[U.out];exact hi)
 rw[U.out]at N
 obtain⟨k,hk⟩:=yaa (d_ (a_ s) i)
 rw[←hk]at av N L⊢
 have am:=N.2
 have ax:=dM (fun(W:World) (F:Rdr W B s k (256-left))=>tk B s k _ W F am (by omega))
 obtain⟨r,V⟩:=yaa (nj (a_ s) d k left)
 have ai:r=mT (a_ s) (v_ (a_ s) d) k left:=V.trans (Ec (a_ s) d k left)
 rw[←V]
 clear F O hk N V
 have HV:Hid (r=pj (a_ s) (left-1) (.mk 3 0 (toS (nE (a_ s) k).1) [] []) (nE (a_ s) k).2):=dM (ai.trans (by unfold mT;rw[dN (show ¬ ¬pA (f_ (a_ s) k)=true by rw[L];decide),dN (show ¬left-1<0 by omega)];rw[dN (by omega),dN (by omega),dN (by omega),dN (by omega),dP L]))
 have ae:=dM (fun(W:World) (F:Rdr W B s k (256-(left-1))) (O:GW W B)=>Mj B s k _ W F O am (by omega))
 have Q:=FC (a_ s) k
 have ad:=J7 (a_ s) k
 unfold EscTells at ae
 obtain⟨T,hT⟩:=yaa (nE (a_ s) k)
 rw[←hT]at HV ae Q ad
 rw[U.out]at Q ad
 have ay:=dM Q
 have ab:(toS T.1).size≤9223372036854775807:=by rw[qc];omega
 have aF:k<s.size:=by rw[←U.out];exact oq (by omega)
 rw[(BC (by decide)).2 L]at ax
 have au:=dM (fun W:World=>Eg 34 W)
 obtain⟨X,hX⟩:=yaa (Lib.indexByte [110,116,102,34,91,123,45,48,49,50,51,52,53,54,55,56,57] ((34:Int).toNat.toUInt8))
 rw[←hX]at au
 have aH: ¬X<0:=by rw[hX];decide
 have aE:decide ((256:Int)<256-left+1)=false:=dT (by omega)
 clear hX
 clear ai L hT Q ad
 go_enter jB,jh
 go_wp2_with(first|(refine nG rfl (some 4) rfl _ rfl _ D8 ?_;intro g w1 ao ap Z;have aD:=dM ap;have aB:=dM Z;have az:=dM (Blk.grownN HW.out Z);have aG:=dX aj ao;clear ap Z;try go_frame)|(go_at_call 129;(with_reducible refine(av.out _ az.out).mono ?_);rintro e M ⟨rfl,aa,Y⟩;have ag:=dM ((aB.out.but (some B)).trans aa);have ar:=dM Y;have aC:=dM (Blk.grown aD.out aa (by intro e;injection e with e;omega));obtain⟨⟨c0,c1,c2⟩,f0,f1,f2⟩:=Rdr.cells Y;clear aa Y)|(go_at_call 160;(with_reducible refine(ax.out _ ar.out).mono ?_);rintro e w' ⟨rfl,q,rfl⟩)|(go_at_call 161;(with_reducible refine(au.out _).mono ?_);rintro e w' ⟨rfl,rfl⟩))
 refine(ae.out _ (F7 (Rdr.counts (ar.out.drewN q) _) (by omega)) (aA.out.grown (ag.out.trans (oM M q B 2 (.int .i64 (256-left+1)))))).mono ?_
 rintro e w5 (⟨G,rfl,I,ak⟩|⟨G,rfl,I⟩)
 ·have R:Hid (r=(.mk 3 0 (toS T.1) [] [],d_ (a_ s) T.2.1,left-1,0)):=dM (HV.out.trans (by unfold pj;exact dN (fun h=>h G)))
  have hq:=ay.out G
  have af:=dM ((ag.out.trans (oM M q B 2 (.int .i64 (256-left+1)))).trans I)
  have aq:=dM ak
  have aw:=dM (Blk.grown (Blk.grown aC.out (oM M q B 2 (.int .i64 (256-left+1))) (by intro e;injection e with e;omega)) I (by intro e;injection e with e;omega))
  clear G I ak
  obtain⟨S,hS⟩:=yaa (toS T.1)
  rw[←hS]at R ab⊢
  clear hS
  go_wp2_with fail
  refine(If S _ ab).mono ?_
  rintro e E ⟨rfl,D⟩
  have ah:=dM D
  clear D
  have D:=Blk.below aw.out ah.out aw.out.lt
  obtain⟨b0,b1,b2,b3,b4⟩:E.cell? ⟨g,0,none⟩=some (.int .i64 0)∧E.cell? ⟨g,1,none⟩=some (.int .i64 0)∧E.cell? ⟨g,2,none⟩=some (.string ⟨#[]⟩)∧E.cell? ⟨g,3,none⟩=some (.slice none 0 0)∧E.cell? ⟨g,4,none⟩=some (.slice none 0 0):=⟨D.cell 0,D.cell 1,D.cell 2,D.cell 3,D.cell 4⟩
  obtain⟨z0,z1,z2,z3,z4⟩:E.frozen? ⟨g,0,none⟩=false∧E.frozen? ⟨g,1,none⟩=false∧E.frozen? ⟨g,2,none⟩=false∧E.frozen? ⟨g,3,none⟩=false∧E.frozen? ⟨g,4,none⟩=false:=⟨D.frozen 0,D.frozen 1,D.frozen 2,D.frozen 3,D.frozen 4⟩
  have HF:=dM (F3 (r:=r) ao aj (af.out.trans (od ah.out _)) (Blk.below aq.out ah.out aq.out.lt) D (RepS.plain _ _ 3 0 S ab) hq (R.out.trans (by rw[show 256-(256-(left-1))=left-1 by omega]<;>rfl)))
  clear D
  go_wp2
  refine dW (BH jw _ _ g _ _ _ rfl HF.out.1 ed rfl m8) rfl HF.out.2
 ·have R:Hid (r=(zeroJ,T.2.1,left-1,T.2.2)):=dM (HV.out.trans (by unfold pj;exact dP G))
  have af:=dM I
  have HT:=dM G
  clear G I
  go_wp2
  exact⟨rfl,ValPost.bad R.out HT.out ⟨rfl,(ag.out.trans (oM M q B 2 (.int .i64 (256-left+1)))).trans af.out⟩⟩
theorem rI (s:ByteArray) (B d:Nat) (hs:s.size≤10000) (hd:d≤8) (i:Nat) (left:Int) (w:World) (hi:i≤s.size) (h0:0≤left) (h1:left≤256) (G:Rdr w B s i (256-left)) (hg:GW w B) (hl:1≤left) (hc:f_ (a_ s) (d_ (a_ s) i)=45∨(48≤f_ (a_ s) (d_ (a_ s) i)∧f_ (a_ s) (d_ (a_ s) i)≤57)):
  Calls prog 128 #[.pointer (some ⟨B,0,none⟩),.int .i64 (9-(d:Int))] w (ValPost w B s (nj (a_ s) d (d_ (a_ s) i) left)):=by
 have ab:=dM (j_ s)
 have HW:=dM G
 have aL:=dM hg
 have ap:=G.lt
 have aA:=dM (fun(W:World) (G:Rdr W B s i (256-left))=>wn B s i _ W G hi (by omega))
 have Y:=oS (l:=a_ s) (i:=i) (by rw[ab.out];exact hi)
 rw[ab.out]at Y
 obtain⟨k,hk⟩:=yaa (d_ (a_ s) i)
 rw[←hk]at aA Y hc⊢
 have au:=Y.2
 have aC:=dM (fun(W:World) (G:Rdr W B s k (256-left))=>tk B s k _ W G au (by omega))
 obtain⟨r,ad⟩:=yaa (nj (a_ s) d k left)
 have ao:r=mT (a_ s) (v_ (a_ s) d) k left:=ad.trans (Ec (a_ s) d k left)
 rw[←ad]
 clear G hg hk Y ad
 have aj:pA (f_ (a_ s) k)=true:=by unfold pA;rw[eb];omega
 have R:Hid (r=if np ((a_ s).drop k)=0 then(zeroJ,k+1,left-1,50)else if oj (((a_ s).drop k).take (np ((a_ s).drop k))) (-9007199254740991) 9007199254740991=true then(.mk 2 (oP (((a_ s).drop k).take (np ((a_ s).drop k)))) ⟨#[]⟩ [] [],d_ (a_ s) (k+np ((a_ s).drop k)),left-1,0)else(zeroJ,k,left-1,41)):=dM (ao.trans (by unfold mT;rw[dN (fun h=>h aj),dN (show ¬left-1<0 by omega),dP hc]))
 have aa:=dM (fun(W:World) (G:Rdr W B s k (256-(left-1)))=>xC B s k _ W G au (by omega))
 unfold Kl at aa
 have ar:=Fw ((a_ s).drop k)
 rw[eq,ab.out]at ar
 have Z:=G4 s k
 have af:pA (oQ (a_ s) k)=true:=by rw[KJ];exact aj
 have aI:k<s.size:=by rw[←ab.out];exact oq (by omega)
 have M: ∀c,0<c→f_ (a_ s) k≠c→(oQ (a_ s) k==c)=false:=fun c h0 h=>by rw[dY];exact G5 h0 h
 obtain⟨n1,n2,n3,n4,n5,n6⟩:=And.intro (M 110 (by decide) (by omega)) (And.intro (M 116 (by decide) (by omega)) (And.intro (M 102 (by decide) (by omega)) (And.intro (M 34 (by decide) (by omega)) (And.intro (M 91 (by decide) (by omega)) (M 123 (by decide) (by omega))))))
 obtain⟨x,hx⟩:=yaa (oQ (a_ s) k)
 rw[←hx]at aC Z af n1 n2 n3 n4 n5 n6
 have ag:=KM Z.1 Z.2
 have az:=dM (fun W:World=>Eg x W)
 obtain⟨X,hX⟩:=yaa (Lib.indexByte [110,116,102,34,91,123,45,48,49,50,51,52,53,54,55,56,57] x.toNat.toUInt8)
 rw[←hX]at az ag
 have aK: ¬X<0:=by have:=ag.2 af;omega
 have aH:decide ((256:Int)<256-left+1)=false:=dT (by omega)
 obtain⟨m,hm⟩:=yaa (np ((a_ s).drop k))
 rw[←hm]at R aa ar
 obtain⟨Fb,hF⟩: ∃F,F=oj (((a_ s).drop k).take m) (-9007199254740991) 9007199254740991:=⟨_,rfl⟩
 obtain⟨N,hN⟩:=yaa (oP (((a_ s).drop k).take m))
 rw[←hF,←hN]at R aa
 clear ao hc Z af hx ag hX aj M hm hF hN
 go_enter jB,jh
 go_wp2_with(first|(refine nG rfl (some 4) rfl _ rfl _ D8 ?_;intro g w1 av aw ah;have aG:=dM aw;have aE:=dM ah;have aD:=dM (Blk.grownN HW.out ah);have aJ:=dX ap av;clear aw ah;try go_frame)|(go_at_call 129;(with_reducible refine(aA.out _ aD.out).mono ?_);rintro e V ⟨rfl,ai,ae⟩;have ak:=dM ((aE.out.but (some B)).trans ai);have ay:=dM ae;have aF:=dM (Blk.grown aG.out ai (by intro e;injection e with e;omega));obtain⟨⟨c0,c1,c2⟩,f0,f1,f2⟩:=Rdr.cells ae;clear ai ae)|(go_at_call 160;(with_reducible refine(aC.out _ ay.out).mono ?_);rintro e w' ⟨rfl,q,rfl⟩)|(go_at_call 161;(with_reducible refine(az.out _).mono ?_);rintro e w' ⟨rfl,rfl⟩))
 refine(aa.out _ (F7 (Rdr.counts (ay.out.drewN q) _) (by omega))).mono ?_
 rintro e w5 (⟨L,rfl,I⟩|⟨L,O,rfl,I⟩|⟨L,O,rfl,I,aq⟩)
 ·have Q:Hid (r=(zeroJ,k+1,left-1,50)):=dM (R.out.trans (dP L))
  have U:=dM I
  clear L I
  go_wp2
  exact⟨rfl,ValPost.bad Q.out (by decide) ⟨rfl,(ak.out.trans (oM V q B 2 (.int .i64 (256-left+1)))).trans U.out⟩⟩
 ·have Q:Hid (r=(zeroJ,k,left-1,41)):=dM (R.out.trans ((dN L).trans (dN (by rw[O];decide))))
  have U:=dM I
  clear L O I
  go_wp2
  exact⟨rfl,ValPost.bad Q.out (by decide) ⟨rfl,(ak.out.trans (oM V q B 2 (.int .i64 (256-left+1)))).trans U.out⟩⟩
 ·have Q:Hid (r=(.mk 2 N ⟨#[]⟩ [] [],d_ (a_ s) (k+m),left-1,0)):=dM (R.out.trans ((dN L).trans (dP O)))
  have hq:k+m≤s.size:=by omega
  have U:=dM ((ak.out.trans (oM V q B 2 (.int .i64 (256-left+1)))).trans I)
  have ax:=dM aq
  have aB:=dM (Blk.grown (Blk.grown aF.out (oM V q B 2 (.int .i64 (256-left+1))) (by intro e;injection e with e;omega)) I (by intro e;injection e with e;omega))
  clear L O I aq
  go_wp2_with fail
  refine(EY N _).mono ?_
  rintro e E ⟨rfl,D⟩
  have am:=dM D
  clear D
  have D:=Blk.below aB.out am.out aB.out.lt
  obtain⟨b0,b1,b2,b3,b4⟩:E.cell? ⟨g,0,none⟩=some (.int .i64 0)∧E.cell? ⟨g,1,none⟩=some (.int .i64 0)∧E.cell? ⟨g,2,none⟩=some (.string ⟨#[]⟩)∧E.cell? ⟨g,3,none⟩=some (.slice none 0 0)∧E.cell? ⟨g,4,none⟩=some (.slice none 0 0):=⟨D.cell 0,D.cell 1,D.cell 2,D.cell 3,D.cell 4⟩
  obtain⟨z0,z1,z2,z3,z4⟩:E.frozen? ⟨g,0,none⟩=false∧E.frozen? ⟨g,1,none⟩=false∧E.frozen? ⟨g,2,none⟩=false∧E.frozen? ⟨g,3,none⟩=false∧E.frozen? ⟨g,4,none⟩=false:=⟨D.frozen 0,D.frozen 1,D.frozen 2,D.frozen 3,D.frozen 4⟩
  have HF:=dM (F3 (r:=r) av ap (U.out.trans (od am.out _)) (Blk.below ax.out am.out ax.out.lt) D (RepS.plain _ _ 2 N ⟨#[]⟩ (by decide)) hq (Q.out.trans (by rw[show 256-(256-(left-1))=left-1 by omega]<;>rfl)))
  clear D
  go_wp2
  refine dW (BH jw _ _ g _ _ _ rfl HF.out.1 ed rfl m8) rfl HF.out.2
theorem wI (s:ByteArray) (B d:Nat) (hs:s.size≤10000) (hd:d≤8) (i:Nat) (left:Int) (w:World) (hi:i≤s.size) (h0:0≤left) (h1:left≤256) (F:Rdr w B s i (256-left)) (O:GW w B) (hl:1≤left) (M:f_ (a_ s) (d_ (a_ s) i)=91) (hm: ∀(i:Nat) (left:Int) (w:World),i<s.size→0≤left→left≤256→Rdr w B s i (256-left)→GW w B→f_ (a_ s) i=91→Calls prog 165 #[.pointer (some ⟨B,0,none⟩),.int .i64 (9-(d:Int))] w (ValPost w B s (v_ (a_ s) d i left))):
  Calls prog 128 #[.pointer (some ⟨B,0,none⟩),.int .i64 (9-(d:Int))] w (ValPost w B s (nj (a_ s) d (d_ (a_ s) i) left)):=by
 have ab:=dM (j_ s)
 have HW:=dM F
 have aA:=dM O
 have ah:=F.lt
 have ar:=dM (fun(W:World) (F:Rdr W B s i (256-left))=>wn B s i _ W F hi (by omega))
 have N:=oS (l:=a_ s) (i:=i) (by rw[ab.out];exact hi)
 rw[ab.out]at N
 obtain⟨k,hk⟩:=yaa (d_ (a_ s) i)
 rw[←hk]at ar N M⊢
 have aw:=N.2
 have au:=dM (fun(W:World) (F:Rdr W B s k (256-left))=>tk B s k _ W F aw (by omega))
 obtain⟨r,R⟩:=yaa (nj (a_ s) d k left)
 have af:r=mT (a_ s) (v_ (a_ s) d) k left:=R.trans (Ec (a_ s) d k left)
 rw[←R]
 clear F O hk N R
 have HV:Hid (r=v_ (a_ s) d k (left-1)):=dM (af.trans (by unfold mT;rw[dN (show ¬ ¬pA (f_ (a_ s) k)=true by rw[M];decide),dN (show ¬left-1<0 by omega)];rw[dN (by omega),dN (by omega),dN (by omega),dN (by omega),dN (by omega)]))
 have av:k<s.size:=by rw[←ab.out];exact oq (by omega)
 rw[(BC (by decide)).2 M]at au
 have aq:=dM (fun W:World=>Eg 91 W)
 obtain⟨X,Z⟩:=yaa (Lib.indexByte [110,116,102,34,91,123,45,48,49,50,51,52,53,54,55,56,57] ((91:Int).toNat.toUInt8))
 rw[←Z]at aq
 have aH: ¬X<0:=by rw[Z];decide
 have aF:decide ((256:Int)<256-left+1)=false:=dT (by omega)
 clear Z
 have aa:=dM (fun(W:World) (F:Rdr W B s k (256-(left-1))) (O:GW W B)=>hm k (left-1) W av (by omega) (by omega) F O M)
 rw[←HV.out]at aa
 unfold ValPost at aa
 clear af M hm
 go_enter jB,jh
 go_wp2_with(first|(refine nG rfl (some 4) rfl _ rfl _ D8 ?_;intro g w1 ak am V;have aC:=dM am;have aB:=dM V;have az:=dM (Blk.grownN HW.out V);have aG:=dX ah ak;clear am V;try go_frame)|(go_at_call 129;(with_reducible refine(ar.out _ az.out).mono ?_);rintro e G ⟨rfl,Y,U⟩;have Q:=dM ((aB.out.but (some B)).trans Y);have ap:=dM U;have ae:=dM (Blk.grown aC.out Y (by intro e;injection e with e;omega));obtain⟨⟨c0,c1,c2⟩,f0,f1,f2⟩:=Rdr.cells U;clear Y U)|(go_at_call 160;(with_reducible refine(au.out _ ap.out).mono ?_);rintro e w' ⟨rfl,q,rfl⟩)|(go_at_call 161;(with_reducible refine(aq.out _).mono ?_);rintro e w' ⟨rfl,rfl⟩))
 refine(aa.out _ (F7 (Rdr.counts (ap.out.drewN q) _) (by omega)) (aA.out.grown (Q.out.trans (oM G q B 2 (.int .i64 (256-left+1)))))).mono ?_
 rintro e E (⟨L,v,q5,rfl,ai,hq,ag,I,aj⟩|⟨L,rfl,I⟩)
 ·have ax:Hid (r=(r.1,d_ (a_ s) q5,r.2.2.1,0)):=dM (by rw[ag,←L])
  have ao:=dM (RepS.keeps (Keeps.refl _ E) (T:=fun b=>w.heap.size≤b∧b≠g) (fun b (h:_≤b) _=>by
   have aE:g<(G.drewN q).heap.size:=ae.out.lt
   have aD:w.heap.size≤G.heap.size:=Q.out.size
   have h':G.heap.size≤b:=by simpa using h
   exact⟨by omega,by have:g<G.heap.size:=ae.out.lt;omega⟩) _ _ ai)
  have ad:=dM ((Q.out.trans (oM G q B 2 (.int .i64 (256-left+1)))).trans I)
  have ay:=dM aj
  have D:=Blk.grown (Blk.grown ae.out (oM G q B 2 (.int .i64 (256-left+1))) (by intro e;injection e with e;omega)) I (by intro e;injection e with e;omega)
  obtain⟨vk,A,c9,rfl, -,⟨K9,d9,rfl, -, -⟩, -, -⟩:=ao.out.open
  clear L I aj ai ag
  obtain⟨b0,b1,b2,b3,b4⟩:E.cell? ⟨g,0,none⟩=some (.int .i64 0)∧E.cell? ⟨g,1,none⟩=some (.int .i64 0)∧E.cell? ⟨g,2,none⟩=some (.string ⟨#[]⟩)∧E.cell? ⟨g,3,none⟩=some (.slice none 0 0)∧E.cell? ⟨g,4,none⟩=some (.slice none 0 0):=⟨D.cell 0,D.cell 1,D.cell 2,D.cell 3,D.cell 4⟩
  obtain⟨z0,z1,z2,z3,z4⟩:E.frozen? ⟨g,0,none⟩=false∧E.frozen? ⟨g,1,none⟩=false∧E.frozen? ⟨g,2,none⟩=false∧E.frozen? ⟨g,3,none⟩=false∧E.frozen? ⟨g,4,none⟩=false:=⟨D.frozen 0,D.frozen 1,D.frozen 2,D.frozen 3,D.frozen 4⟩
  have HF:=dM (F3 (r:=r) ak ah ad.out ay.out D ao.out hq (ax.out.trans (by rw[show 256-(256-r.2.2.1)=r.2.2.1 by omega])))
  clear D
  go_wp2
  refine dW (BH jw _ _ g _ _ _ rfl HF.out.1 ed rfl m8) rfl HF.out.2
 ·have ad:=dM I
  have HT:=dM L
  clear L I
  go_wp2
  exact⟨rfl,.inr ⟨HT.out,rfl,(Q.out.trans (oM G q B 2 (.int .i64 (256-left+1)))).trans ad.out⟩⟩
theorem rH (s:ByteArray) (B d:Nat) (hs:s.size≤10000) (hd:d≤8) (i:Nat) (left:Int) (w:World) (hi:i≤s.size) (h0:0≤left) (h1:left≤256) (F:Rdr w B s i (256-left)) (O:GW w B) (hl:1≤left) (M:f_ (a_ s) (d_ (a_ s) i)=123) (hm: ∀(i:Nat) (left:Int) (w:World),i<s.size→0≤left→left≤256→Rdr w B s i (256-left)→GW w B→f_ (a_ s) i=123→Calls prog 166 #[.pointer (some ⟨B,0,none⟩),.int .i64 (9-(d:Int))] w (ValPost w B s (v_ (a_ s) d i left))):
  Calls prog 128 #[.pointer (some ⟨B,0,none⟩),.int .i64 (9-(d:Int))] w (ValPost w B s (nj (a_ s) d (d_ (a_ s) i) left)):=by
 have ab:=dM (j_ s)
 have HW:=dM F
 have aA:=dM O
 have ah:=F.lt
 have ar:=dM (fun(W:World) (F:Rdr W B s i (256-left))=>wn B s i _ W F hi (by omega))
 have N:=oS (l:=a_ s) (i:=i) (by rw[ab.out];exact hi)
 rw[ab.out]at N
 obtain⟨k,hk⟩:=yaa (d_ (a_ s) i)
 rw[←hk]at ar N M⊢
 have aw:=N.2
 have au:=dM (fun(W:World) (F:Rdr W B s k (256-left))=>tk B s k _ W F aw (by omega))
 obtain⟨r,R⟩:=yaa (nj (a_ s) d k left)
 have af:r=mT (a_ s) (v_ (a_ s) d) k left:=R.trans (Ec (a_ s) d k left)
 rw[←R]
 clear F O hk N R
 have HV:Hid (r=v_ (a_ s) d k (left-1)):=dM (af.trans (by unfold mT;rw[dN (show ¬ ¬pA (f_ (a_ s) k)=true by rw[M];decide),dN (show ¬left-1<0 by omega)];rw[dN (by omega),dN (by omega),dN (by omega),dN (by omega),dN (by omega)]))
 have av:k<s.size:=by rw[←ab.out];exact oq (by omega)
 rw[(BC (by decide)).2 M]at au
 have aq:=dM (fun W:World=>Eg 123 W)
 obtain⟨X,Z⟩:=yaa (Lib.indexByte [110,116,102,34,91,123,45,48,49,50,51,52,53,54,55,56,57] ((123:Int).toNat.toUInt8))
 rw[←Z]at aq
 have aH: ¬X<0:=by rw[Z];decide
 have aF:decide ((256:Int)<256-left+1)=false:=dT (by omega)
 clear Z
 have aa:=dM (fun(W:World) (F:Rdr W B s k (256-(left-1))) (O:GW W B)=>hm k (left-1) W av (by omega) (by omega) F O M)
 rw[←HV.out]at aa
 unfold ValPost at aa
 clear af M hm
 go_enter jB,jh
 go_wp2_with(first|(refine nG rfl (some 4) rfl _ rfl _ D8 ?_;intro g w1 ak am V;have aC:=dM am;have aB:=dM V;have az:=dM (Blk.grownN HW.out V);have aG:=dX ah ak;clear am V;try go_frame)|(go_at_call 129;(with_reducible refine(ar.out _ az.out).mono ?_);rintro e G ⟨rfl,Y,U⟩;have Q:=dM ((aB.out.but (some B)).trans Y);have ap:=dM U;have ae:=dM (Blk.grown aC.out Y (by intro e;injection e with e;omega));obtain⟨⟨c0,c1,c2⟩,f0,f1,f2⟩:=Rdr.cells U;clear Y U)|(go_at_call 160;(with_reducible refine(au.out _ ap.out).mono ?_);rintro e w' ⟨rfl,q,rfl⟩)|(go_at_call 161;(with_reducible refine(aq.out _).mono ?_);rintro e w' ⟨rfl,rfl⟩))
 refine(aa.out _ (F7 (Rdr.counts (ap.out.drewN q) _) (by omega)) (aA.out.grown (Q.out.trans (oM G q B 2 (.int .i64 (256-left+1)))))).mono ?_
 rintro e E (⟨L,v,q5,rfl,ai,hq,ag,I,aj⟩|⟨L,rfl,I⟩)
 ·have ax:Hid (r=(r.1,d_ (a_ s) q5,r.2.2.1,0)):=dM (by rw[ag,←L])
  have ao:=dM (RepS.keeps (Keeps.refl _ E) (T:=fun b=>w.heap.size≤b∧b≠g) (fun b (h:_≤b) _=>by
   have aE:g<(G.drewN q).heap.size:=ae.out.lt
   have aD:w.heap.size≤G.heap.size:=Q.out.size
   have h':G.heap.size≤b:=by simpa using h
   exact⟨by omega,by have:g<G.heap.size:=ae.out.lt;omega⟩) _ _ ai)
  have ad:=dM ((Q.out.trans (oM G q B 2 (.int .i64 (256-left+1)))).trans I)
  have ay:=dM aj
  have D:=Blk.grown (Blk.grown ae.out (oM G q B 2 (.int .i64 (256-left+1))) (by intro e;injection e with e;omega)) I (by intro e;injection e with e;omega)
  obtain⟨vk,A,c9,rfl, -,⟨K9,d9,rfl, -, -⟩, -, -⟩:=ao.out.open
  clear L I aj ai ag
  obtain⟨b0,b1,b2,b3,b4⟩:E.cell? ⟨g,0,none⟩=some (.int .i64 0)∧E.cell? ⟨g,1,none⟩=some (.int .i64 0)∧E.cell? ⟨g,2,none⟩=some (.string ⟨#[]⟩)∧E.cell? ⟨g,3,none⟩=some (.slice none 0 0)∧E.cell? ⟨g,4,none⟩=some (.slice none 0 0):=⟨D.cell 0,D.cell 1,D.cell 2,D.cell 3,D.cell 4⟩
  obtain⟨z0,z1,z2,z3,z4⟩:E.frozen? ⟨g,0,none⟩=false∧E.frozen? ⟨g,1,none⟩=false∧E.frozen? ⟨g,2,none⟩=false∧E.frozen? ⟨g,3,none⟩=false∧E.frozen? ⟨g,4,none⟩=false:=⟨D.frozen 0,D.frozen 1,D.frozen 2,D.frozen 3,D.frozen 4⟩
  have HF:=dM (F3 (r:=r) ak ah ad.out ay.out D ao.out hq (ax.out.trans (by rw[show 256-(256-r.2.2.1)=r.2.2.1 by omega])))
  clear D
  go_wp2
  refine dW (BH jw _ _ g _ _ _ rfl HF.out.1 ed rfl m8) rfl HF.out.2
 ·have ad:=dM I
  have HT:=dM L
  clear L I
  go_wp2
  exact⟨rfl,.inr ⟨HT.out,rfl,(Q.out.trans (oM G q B 2 (.int .i64 (256-left+1)))).trans ad.out⟩⟩
def yA (s:ByteArray) (rb d:Nat):Prop:= ∀(i:Nat) (left:Int) (w:World),i<s.size→0≤left→left≤256→Rdr w rb s i (256-left)→GW w rb→f_ (a_ s) i=123→
 Calls prog 166 #[.pointer (some ⟨rb,0,none⟩),.int .i64 (9-(d:Int))] w (ValPost w rb s (v_ (a_ s) d i left))
theorem AH (s:ByteArray) (q:Nat) (i:Nat) (left:Int) (w:World) (D:Rdr w q s i (256-left)):
  Calls prog 165 #[.pointer (some ⟨q,0,none⟩),.int .i64 9] w (ValPost w q s (zeroJ,i,left,51)):=by
 have B:=Mb w q s 9 i _ D
 have M:=dM (fun f=>L5 q s i _ 9 93 f _ B.rdr (by decide) (by decide))
 have L:=dM B.gr
 have O: ∀(F:Fn) (first G:Array Value) (w:World),(Instr.makeFunc F first G).run prog w= .ok (.func F first G) w:=fun _ _ _ _=>rfl
 clear D B
 go_enter func165,ntmps165
 go_wp2_with fail
 refine(M.out _).mono ?_
 rintro e N ⟨rfl,E⟩
 have I:=dM (L.out.trans E)
 clear E
 go_wp2
 exact⟨rfl,ValPost.bad rfl (by decide) ⟨rfl,I.out⟩⟩
theorem tu (s:ByteArray) (q d:Nat) (E:s.size≤10000) (F:d≤8) (N: ∀e,d=e+1→BL s q e) (O:yA s q d):BL s q d:=fun i left w hi h0 h1 B D=>by
 by_cases M:pA (f_ (a_ s) (d_ (a_ s) i))=true
 ·by_cases Q:left=0
  ·exact wH s q d E F i left w hi h0 h1 B D M Q
  ·have G:1≤left:=by omega
   have L:=M
   unfold pA at L
   rw[eb]at L
   by_cases I:f_ (a_ s) (d_ (a_ s) i)=45∨(48≤f_ (a_ s) (d_ (a_ s) i)∧f_ (a_ s) (d_ (a_ s) i)≤57)
   ·exact rI s q d E F i left w hi h0 h1 B D G I
   ·rcases L with h|h|h|h|h|h|h|h
    ·exact absurd (.inl h) I
    ·exact absurd (.inr h) I
    ·exact wF s q d E F i left w hi h0 h1 B D G h
    ·exact wD s q d E F i left w hi h0 h1 B D G h
    ·exact tw s q d E F i left w hi h0 h1 B D G h
    ·exact wE s q d E F i left w hi h0 h1 B D G h
    ·refine wI s q d E F i left w hi h0 h1 B D G h (fun i left w hi h0 h1 B D R=> ?_)
     cases d with
     |zero=>exact AH s q i left w B
     |succ d=>
      have:=CT s q d E (by omega) (N d rfl) i left w hi h0 h1 B D R
      rw[show(9:Int)-((d+1:Nat):Int)=8-(d:Int)by omega]
      exact this
    ·exact rH s q d E F i left w hi h0 h1 B D G h O
 ·exact wG s q d E F i left w hi h0 h1 B D M
theorem K5 (s:ByteArray) (B:Nat) (D:s.size≤10000) (E: ∀d,d≤8→(∀e,d=e+1→BL s B e)→yA s B d): ∀d,d≤8→BL s B d
 |0,h=>tu s B 0 D h (fun e q=>by cases q) (E 0 h (fun e q=>by cases q))
 |d+1,h=>tu s B (d+1) D h (fun e q=>by injection q with q;subst q;exact K5 s B D E d (by omega)) (E (d+1) h (fun e q=>by injection q with q;subst q;exact K5 s B D E d (by omega)))
end Go.Proofs.YtceddodfddlncaaGreatDoor
