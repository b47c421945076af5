
import Derived.Test.YtceddodfddlncaaGreatDoorJb22
import Derived.Test.YtceddodfddlncaaGreatDoorJb23
import Derived.Test.YtceddodfddlncaaGreatDoorJb25
import Derived.Test.YtceddodfddlncaaGreatDoorJb26
set_option maxRecDepth 100000
set_option maxHeartbeats 16000000
set_option linter.all false
namespace Go.Proofs.YtceddodfddlncaaGreatDoor
open Go Go.RowKit
theorem bldZero:(Tryz.prog.info? 120).map (·.zero)=some (some (.agg #[.pointer none,.slice none 0 0])):=by kernel_rfl
theorem strCells_toS {l:List Int} (h:Bytes l):Lib.strCells (toS l)=ints .u8 l:=by rw[zmn,zcb h]
theorem zlY (s:ByteArray) (i:Nat):Bytes (segL (strL s) i):=((zaz s).drop _).take _
theorem escL_len (l:List Int) (i:Nat):(escL l i).1.length≤4:=by
 unfold escL codL
 have hp:=plain_len (atL l (i+1))
 split
 ·split
  ·simp
  ·show(zay _).length≤4;omega
 ·split
  ·simp
  ·split
   ·exact zdc _
   ·split
    ·simp
    ·exact zdc _
theorem escL_bytes (l:List Int) (i:Nat):Bytes (escL l i).1:=by
 have hn:Bytes []:= .of_mem fun x hx=>by cases hx
 unfold escL codL
 split
 ·split
  ·exact hn
  ·exact plain_bytes _
 ·split
  ·exact hn
  ·split
   ·exact zgX _
   ·split
    ·exact hn
    ·exact zgX _
theorem escL_next {l:List Int} {i:Nat} (h:(escL l i).2.2=0):i+2≤(escL l i).2.1∧(escL l i).2.1≤l.length:=by
 have h6: ∀a:Nat,(hexL l 4 a 0).1≥0→a+4≤l.length:=fun a h=>by
  rcases Nat.lt_or_ge l.length (a+4)with hlt|hge
  ·exfalso
   have key: ∀(k a:Nat) (n:Int),l.length<a+k→0≤n→(hexL l k a n).1<0∨k=0:=fun k=>by
    induction k with
    |zero=>intro _ _ _ _;right;rfl
    |succ k ih=>
     intro a n hl hn
     left
     rw[hexL]
     split
     ·show(-1:Int)<0;decide
     ·rename_i hd
      rcases Nat.lt_or_ge a l.length with ha|ha
      ·have hd2:=hexD_bd (atL l a)
       rcases ih (a+1) (16*n+hexD (atL l a)) (by omega) (by omega)with h|rfl
       ·exact h
       ·omega
      ·exfalso
       have:atL l a= -1:=by rw[atL,List.getD_eq_getElem?_getD,List.getElem?_eq_none ha];rfl
       rw[this,znh]at hd
       exact hd (by decide)
   rcases key 4 a 0 hlt (by decide)with h'|h'
   ·omega
   ·cases h'
  ·exact hge
 unfold escL at h⊢
 by_cases h1:atL l (i+1)≠117
 ·rw[if_pos h1]at h⊢
  by_cases h2:zay (atL l (i+1))=[]
  ·rw[if_pos h2]at h;exact absurd (show(50:Int)=0 from h) (by decide)
  ·rw[if_neg h2]
   have:i+1<l.length:=zbZ (by intro e;rw[e]at h2;exact h2 (by decide))
   exact⟨Nat.le_refl _,by show i+2≤l.length;omega⟩
 ·rw[if_neg h1]at h⊢
  unfold codL at h⊢
  by_cases h2:(hexL l 4 (i+2) 0).1<0
  ·rw[if_pos h2]at h;exact absurd (show(50:Int)=0 from h) (by decide)
  ·rw[if_neg h2]at h⊢
   have hl:=h6 (i+2) (by omega)
   by_cases h3:(hexL l 4 (i+2) 0).1<55296∨57343<(hexL l 4 (i+2) 0).1
   ·rw[if_pos h3];exact⟨by show i+2≤i+6;omega,by show i+6≤l.length;omega⟩
   ·rw[if_neg h3]at h⊢
    by_cases h4:56320≤(hexL l 4 (i+2) 0).1∨zbm l i<56320∨57343<zbm l i
    ·rw[if_pos h4]at h;exact absurd (show(50:Int)=0 from h) (by decide)
    ·rw[if_neg h4]
     have hh:0≤(hexL l 4 (i+8) 0).1:=by
      have: ¬zbm l i<56320:=fun h=>h4 (.inr (.inl h))
      unfold zbm at this
      split at this
      ·omega
      ·exact absurd (by decide:(-1:Int)<56320) this
     have hl2:=h6 (i+8) hh
     exact⟨by show i+2≤i+12;omega,by show i+12≤l.length;omega⟩
theorem quot_step {l:List Int} {j:Nat} {out:List Int} (hj:j≤l.length) (h92:atL l j=92) (he:(escL l j).2.2=0):
  zbq l (l.length+1) j out=if badU (segL l (escL l j).2.1)<zcY l (escL l j).2.1-(escL l j).2.1 then([],(escL l j).2.1+badU (segL l (escL l j).2.1),50)
   else zbq l (l.length+1) (zcY l (escL l j).2.1) (out++(escL l j).1++segL l (escL l j).2.1):=by
 have hn:=escL_next he
 have h1:=quotL_esc l l.length j out h92
 rw[if_neg (fun h=>h he)]at h1
 rw[h1]
 exact zll l _ _ _ _ _ (Nat.le_refl _) hn.2 (by omega) (by omega)
theorem zka {w a b:World} {rb:Nat} (h:w.grownBy a (some rb)) (hb:Below w.heap.size a b):w.grownBy b (some rb):=
 ⟨hb.os.trans h.os,hb.tape.trans h.tape,hb.output.trans h.output,Nat.le_trans h.size hb.size,fun i hi hne=>(hb.block i hi).trans (h.block i hi hne)⟩
theorem fresh_bld {w w1:World} {g:Nat} (hg:w.heap.size≤g) (hb:Blk w1 g 120 [.pointer none,.slice none 0 0]):IsBld w.heap.size g [] w1:=
 .inl ⟨hg,_,hb,World.ownsRow_nil _ _ _ _,by simp[Value.ownBlock]⟩
theorem escL_err (l:List Int) (i:Nat):(escL l i).2.2=0∨(escL l i).2.2=50:=by
 unfold escL codL
 split
 ·split
  ·exact .inr rfl
  ·exact .inl rfl
 ·split
  ·exact .inr rfl
  ·split
   ·exact .inl rfl
   ·split
    ·exact .inr rfl
    ·exact .inl rfl
def QInv (w wr:World) (rb g:Nat) (s:ByteArray) (j:Nat) (n:Int) (out:List Int):Prop:=
 IsBld w.heap.size g (ints .u8 out) wr∧w.grownBy wr (some rb)∧Rdr wr rb s j n
theorem QInv.bld {w wr:World} {rb g:Nat} {s:ByteArray} {j:Nat} {n:Int} {out:List Int} (h:QInv w wr rb g s j n out):IsBld w.heap.size g (ints .u8 out) wr:=h.1
theorem QInv.gr {w wr:World} {rb g:Nat} {s:ByteArray} {j:Nat} {n:Int} {out:List Int} (h:QInv w wr rb g s j n out):w.grownBy wr (some rb):=h.2.1
theorem QInv.rdr {w wr:World} {rb g:Nat} {s:ByteArray} {j:Nat} {n:Int} {out:List Int} (h:QInv w wr rb g s j n out):Rdr wr rb s j n:=h.2.2
theorem QInv.move {w wr w2:World} {rb g:Nat} {s:ByteArray} {j k:Nat} {n:Int} {out:List Int} (h:QInv w wr rb g s j n out) (hrb:rb<w.heap.size) (hm:zcg wr w2 rb s (k:Nat) n):QInv w w2 rb g s k n out:=
 ⟨h.1.kept hm.1 hrb,h.2.1.trans hm.1,hm.2⟩
theorem QInv.drew {w wr:World} {rb g:Nat} {s:ByteArray} {j:Nat} {n:Int} {out:List Int} (h:QInv w wr rb g s j n out) (q:Nat):QInv w (wr.drewN q) rb g s j n out:=
 ⟨h.1,h.2.1.trans (zbe q _),h.2.2⟩
theorem QInv.write {w wr w2:World} {rb g:Nat} {s:ByteArray} {j:Nat} {n:Int} {out l:List Int} (h:QInv w wr rb g s j n out) (hrb:rb<w.heap.size) (hl:Bytes l) (hb:IsBld w.heap.size g (ints .u8 out++Lib.strCells (toS l)) w2) (hbel:Below w.heap.size wr w2):QInv w w2 rb g s j n (out++l):=
 ⟨by rw[zbK,←strCells_toS hl];exact hb,zka h.2.1 hbel,Blk.below h.2.2 hbel hrb⟩
theorem zli (rb:Nat) (s:ByteArray) (i:Nat) (n:Int) (w:World) (h:Rdr w rb s i n) (hg:GW w rb) (hi:i≤s.size) (hs:s.size≤100000):
  Calls Tryz.prog 164 #[.pointer (some ⟨rb,0,none⟩)] w (EscTells w rb s n (zan (strL s) i)):=by
 have HLEN:=Lib.hid (zaQ s)
 have HW:=Lib.hid h
 have hrlt:=h.lt
 obtain⟨R,hR⟩: ∃R,R=zan (strL s) i:=⟨_,rfl⟩
 rw[←hR]
 by_cases h34:atL (strL s) i≠34
 ·have HB:Hid (R=([],i,50)):=Lib.hid (by rw[hR];unfold zan;exact if_pos h34)
  have HS:=Lib.hid (fun(W:World) (hr:Rdr W rb s i n)=>zji rb s i n 34 W hr hi (by omega) (by decide) h34)
  clear hR h34 h
  go_enter Tryz.func164,Tryz.ntmps164
  go_wp2_with(first|(refine zaK rfl (some 3) rfl _ rfl _ bldZero ?_;intro g w1 hg1 hb1 hgr1;have HG1:=Lib.hid hgr1;have HR1:=Lib.hid (Blk.grownN HW.out hgr1);clear hg1 hb1 hgr1;try go_frame)|(go_at_call 188;(with_reducible refine(HS.out _ HR1.out).mono ?_);rintro e w2 ⟨rfl,hg2⟩))
  exact⟨rfl,EscTells.bad HB.out ⟨rfl,(HG1.out.but _).trans hg2⟩⟩
 ·have h34':atL (strL s) i=34:=Classical.byContradiction fun h=>h34 h
  have hlt:i<s.size:=by rw[←HLEN.out];exact zbZ (by omega)
  have HR0:Hid (R=zbq (strL s) ((strL s).length+1) (i+1) []):=Lib.hid (by rw[hR];unfold zan;exact if_neg (fun h=>h h34'))
  have HS:=Lib.hid (fun(W:World) (hr:Rdr W rb s i n)=>zfy rb s i n 34 W hr (by omega) (by decide) h34')
  have HRUN:=Lib.hid (HR0.out.trans (zll (strL s) s.size _ ((strL s).length+1) (i+1) [] (by rw[HLEN.out];omega) (by rw[HLEN.out];omega) (by omega) (by omega)))
  have hspan:=zfj (l:=strL s) (i:=i+1) (by rw[HLEN.out];omega)
  rw[HLEN.out]at hspan
  have hsl:=zjz (l:=strL s) (i:=i+1) (by rw[HLEN.out];omega)
  have HPL:=Lib.hid (fun(W:World) (hr:Rdr W rb s (i+1:Nat) n) (hg:GW W rb)=>plain_any rb s (i+1) n W hr hg (by omega) (by omega))
  unfold ziX at HPL
  obtain⟨sp,hsp⟩: ∃sp,sp=zcY (strL s) (i+1):=⟨_,rfl⟩
  obtain⟨sg,hsg⟩: ∃sg,sg=segL (strL s) (i+1):=⟨_,rfl⟩
  have hsgb:Bytes sg:=by rw[hsg];exact zlY s _
  have HEND:Hid (¬zdK (atL (strL s) sp)=true):=Lib.hid (by rw[hsp];exact zjd _ _ _ (Nat.le_refl _))
  rw[←hsp,←hsg]at HPL HRUN
  rw[←hsp]at hspan hsl
  rw[←hsg]at hsl
  obtain⟨B,hB⟩: ∃B,B=badU sg:=⟨_,rfl⟩
  rw[←hB]at HPL HRUN
  have HGW:=Lib.hid hg
  have hgs:w.heap.size≤w.heap.size:=Nat.le_refl _
  clear h hg h34 h34' hR hsp hsg HR0 hB
  go_enter Tryz.func164,Tryz.ntmps164
  go_wp2_with(first|(refine zaK rfl (some 3) rfl _ rfl _ bldZero ?_;intro g w1 hg1 hb1 hgr1;have HQ1:Hid (QInv w w1 rb g s i n []):=Lib.hid ⟨fresh_bld hg1 hb1,hgr1.but _,Blk.grownN HW.out hgr1⟩;clear hg1 hb1 hgr1;try go_frame)|(go_at_call 188;(with_reducible refine(HS.out _ HQ1.out.rdr).mono ?_);rintro e w2 ⟨rfl,hm⟩;have HQ2:=Lib.hid (HQ1.out.move hrlt hm);clear hm))
  refine(HPL.out _ HQ2.out.rdr (HGW.out.grown HQ2.out.gr)).mono ?_
  rintro e w3 (⟨hbad,rfl,hm⟩|⟨hbad,rfl,hg3⟩)
  ·have HRUN2:=Lib.hid (HRUN.out.trans (if_neg hbad))
   rw[List.nil_append]at HRUN2
   have HQ3:=Lib.hid (HQ2.out.move hrlt hm)
   have HWS:=Lib.hid (zhm w.heap.size g (ints .u8 []) (toS sg) w3 HQ3.out.bld (by rw[zcm];simp[ints];omega) HQ3.out.gr.size)
   clear hbad hm
   go_wp2_with(go_at_call 109;(with_reducible refine(HWS.out).mono ?_);rintro e w4 ⟨rfl,hbl,hbe⟩;have HQ4:=Lib.hid (HQ3.out.write hrlt hsgb hbl hbe);clear hbl hbe)
   have hsgl:sg.length≤2*sp:=by omega
   have hspl:sp≤s.size:=hspan.2
   clear hspan hsl
   go_loopw[] (fun wr=> ∃(j:Nat) (out:List Int),j≤s.size∧out.length≤2*j∧Bytes out∧ ¬zdK (atL (strL s) j)=true∧R=zbq (strL s) ((strL s).length+1) j out∧QInv w wr rb g s j n out) (fun wr=>s.size-znQ wr rb)
   case atStart=>exact⟨sp,[]++sg,hspl,by simpa using hsgl,by simpa using hsgb,HEND.out,by simpa using HRUN2.out,HQ4.out⟩
   case round=>
    clear HQ1 HQ2 HQ3 HQ4 HWS HRUN HRUN2 HEND HPL HS hsgb hsgl hspl
    obtain⟨j,out,hj,hol,hob,hend,hrun,hq⟩:=hrel
    have HRN:=Lib.hid hrun
    have HQ:=Lib.hid hq
    have HOB:=Lib.hid hob
    have HA:=Lib.hid (zbi rb s j n wr hq.rdr hj (by omega))
    have HPOS:=Lib.hid (zde hq.rdr)
    clear hrun hq hob
    by_cases h92:atL (strL s) j=92
    ·have HST:=Lib.hid (HRN.out.trans (quotL_esc (strL s) (strL s).length j out h92))
     have hjl:j<s.size:=by rw[←HLEN.out];exact zbZ (by omega)
     have HES:=Lib.hid (fun(W:World) (hr:Rdr W rb s j n) (hg:GW W rb)=>escaped_any rb s j n W hr hg hjl (by omega))
     have hel:=escL_len (strL s) j
     have HEB:=Lib.hid (escL_bytes (strL s) j)
     have herr:=escL_err (strL s) j
     have hnx:=escL_next (l:=strL s) (i:=j)
     have hqs:=quot_step (l:=strL s) (j:=j) (out:=out) (by rw[HLEN.out];exact hj) h92
     rw[(zff (by decide)).2 h92]at HA
     unfold EscTells at HES
     obtain⟨T,hT⟩: ∃T,T=escL (strL s) j:=⟨_,rfl⟩
     rw[←hT]at HST HES hel HEB herr hnx hqs
     clear hT h92 hend
     obtain⟨el,nx,er⟩:=T
     simp only at HST HES hel HEB herr hnx hqs
     go_wp2_with(go_at_call 160;(with_reducible refine HA.out.mono ?_);rintro e w' ⟨rfl,q,rfl⟩;have HQD:=Lib.hid (HQ.out.drew q))
     refine(HES.out _ HQD.out.rdr (HGW.out.grown HQD.out.gr)).mono ?_
     rintro e w5 (⟨he,rfl,hm⟩|⟨he,rfl,hg5⟩)
     ·subst he
      obtain⟨hn2,hnl⟩:=hnx rfl
      rw[HLEN.out]at hnl
      have HRS:=Lib.hid (HRN.out.trans (hqs rfl))
      have hspan:=zfj (l:=strL s) (i:=nx) (by rw[HLEN.out];omega)
      rw[HLEN.out]at hspan
      have hsl:=zjz (l:=strL s) (i:=nx) (by rw[HLEN.out];omega)
      have HPL:=Lib.hid (fun(W:World) (hr:Rdr W rb s (nx:Nat) n) (hg:GW W rb)=>plain_any rb s nx n W hr hg (by omega) (by omega))
      unfold ziX at HPL
      obtain⟨sp,hsp⟩: ∃sp,sp=zcY (strL s) nx:=⟨_,rfl⟩
      obtain⟨sg,hsg⟩: ∃sg,sg=segL (strL s) nx:=⟨_,rfl⟩
      have HSGB:Hid (Bytes sg):=Lib.hid (by rw[hsg];exact zlY s _)
      have HEND:Hid (¬zdK (atL (strL s) sp)=true):=Lib.hid (by rw[hsp];exact zjd _ _ _ (Nat.le_refl _))
      rw[←hsp,←hsg]at HPL HRS
      rw[←hsp]at hspan hsl
      rw[←hsg]at hsl
      obtain⟨B,hB⟩: ∃B,B=badU sg:=⟨_,rfl⟩
      rw[←hB]at HPL HRS
      have HQ5:=Lib.hid (HQD.out.move hrlt hm)
      have HW1:=Lib.hid (zhm w.heap.size g (ints .u8 out) (toS el) w5 HQ5.out.bld (by rw[zcm,length_ints];omega) HQ5.out.gr.size)
      clear hsp hsg hB hm hqs herr HST HES hnx
      go_wp2_with(go_at_call 109;(with_reducible refine(HW1.out).mono ?_);rintro e w6 ⟨rfl,hbl,hbe⟩;have HQ6:=Lib.hid (HQ5.out.write hrlt HEB.out hbl hbe);clear hbl hbe)
      refine(HPL.out _ HQ6.out.rdr (HGW.out.grown HQ6.out.gr)).mono ?_
      rintro e w7 (⟨hbad,rfl,hm⟩|⟨hbad,rfl,hg7⟩)
      ·have HRS2:=Lib.hid (HRS.out.trans (if_neg hbad))
       have HQ7:=Lib.hid (HQ6.out.move hrlt hm)
       have hol2:(out++el).length≤2*nx:=by rw[List.length_append];omega
       have HW2:=Lib.hid (zhm w.heap.size g (ints .u8 (out++el)) (toS sg) w7 HQ7.out.bld (by rw[zcm,length_ints];omega) HQ7.out.gr.size)
       clear hbad hm
       go_wp2_with(go_at_call 109;(with_reducible refine(HW2.out).mono ?_);rintro e w8 ⟨rfl,hbl,hbe⟩;have HQ8:=Lib.hid (HQ7.out.write hrlt HSGB.out hbl hbe);clear hbl hbe)
       go_roundw
       case rel=>exact⟨sp,out++el++sg,hspan.2,by rw[List.length_append];omega,(HOB.out.append HEB.out).append HSGB.out,HEND.out,HRS2.out,HQ8.out⟩
       case measure=>rw[zde HQ8.out.rdr,HPOS.out];omega
      ·have HB:Hid (R=([],nx+B,50)):=Lib.hid (HRS.out.trans (if_pos hbad))
       have HG7:=Lib.hid hg7
       clear hbad hg7
       go_wp2
       exact⟨rfl,EscTells.bad HB.out ⟨rfl,HQ6.out.gr.trans HG7.out⟩⟩
     ·have h50:er=50:=herr.resolve_left he
      subst h50
      have HB:Hid (R=([],nx,50)):=Lib.hid (HST.out.trans (if_pos he))
      have HG5:=Lib.hid hg5
      clear hg5 hnx hqs herr he HST
      go_wp2
      exact⟨rfl,EscTells.bad HB.out ⟨rfl,HQD.out.gr.trans HG5.out⟩⟩
    ·have HST:=Lib.hid (HRN.out.trans (quotL_last (strL s) (strL s).length j out hend h92))
     obtain⟨n92,_⟩:=beq_neI (zme (l:=strL s) (i:=j) (c:=92) (by decide) h92)
     obtain⟨x,hx⟩: ∃x,x=ahL (strL s) j:=⟨_,rfl⟩
     rw[←hx]at HA n92
     clear hx h92 hend
     by_cases h34:atL (strL s) j=34
     ·have HB:Hid (R=(out,j+1,0)):=Lib.hid (HST.out.trans (if_pos h34))
      have HS:=Lib.hid (fun(W:World) (hr:Rdr W rb s j n)=>zfy rb s j n 34 W hr (by omega) (by decide) h34)
      clear HST h34
      go_wp2_with(first|(go_at_call 160;(with_reducible refine HA.out.mono ?_);rintro e w' ⟨rfl,q,rfl⟩;have HQD:=Lib.hid (HQ.out.drew q))|(go_at_call 188;(with_reducible refine(HS.out _ HQD.out.rdr).mono ?_);rintro e w2 ⟨rfl,hm⟩;have HQ2:=Lib.hid (HQD.out.move hrlt hm);have HSTR:=Lib.hid (bldString w.heap.size g out w2 HOB.out HQ2.out.bld HQ2.out.gr.size);clear hm)|(go_at_call 83;(with_reducible refine HSTR.out.mono ?_);rintro e w3 ⟨rfl,hb3⟩;have HB3:=Lib.hid hb3;clear hb3))
      go_ret
      exact EscTells.ok HB.out rfl ⟨zka HQ2.out.gr HB3.out,Blk.below HQ2.out.rdr HB3.out hrlt⟩
     ·have HB:Hid (R=([],j,50)):=Lib.hid (HST.out.trans (if_neg h34))
      have HS:=Lib.hid (fun(W:World) (hr:Rdr W rb s j n)=>zji rb s j n 34 W hr hj (by omega) (by decide) h34)
      clear HST h34
      go_wp2_with(first|(go_at_call 160;(with_reducible refine HA.out.mono ?_);rintro e w' ⟨rfl,q,rfl⟩;have HQD:=Lib.hid (HQ.out.drew q))|(go_at_call 188;(with_reducible refine(HS.out _ HQD.out.rdr).mono ?_);rintro e w2 ⟨rfl,hg2⟩))
      exact⟨rfl,EscTells.bad HB.out ⟨rfl,HQD.out.gr.trans hg2⟩⟩
  ·have HB:Hid (R=([],i+1+B,50)):=Lib.hid (HRUN.out.trans (if_pos hbad))
   have HG3:=Lib.hid hg3
   clear hbad hg3
   go_wp2
   exact⟨rfl,EscTells.bad HB.out ⟨rfl,HQ2.out.gr.trans HG3.out⟩⟩
theorem zgt:(Tryz.prog.info? 63).map (·.zero)=some (some (.agg zeros5.toArray)):=by kernel_rfl
def zgo (l:List Int):Nat→Nat→Int→VR
 |0=>fun i left=>(zeroJ,i,left,51)
 |d+1=>zfK l (valueL l d)
theorem zdj (l:List Int) (d i:Nat) (left:Int):valueL l d i left=valF l (zgo l d) i left:=by cases d<;>rfl
theorem Rdr.counts {w:World} {rb:Nat} {s:ByteArray} {i n:Int} (h:Rdr w rb s i n) (m:Int):Rdr (w.setCell ⟨rb,2,none⟩ (.int .i64 m)) rb s i m:=Blk.setCell h 2 (.int .i64 m)
theorem zdx {w:World} {rb:Nat} {s:ByteArray} {i m n:Int} (h:Rdr w rb s i m) (e:m=n):Rdr w rb s i n:=e▸h
theorem idx_first256: ∀n:Fin 256,decide (0≤Lib.indexByte [110,116,102,34,91,123,45,48,49,50,51,52,53,54,55,56,57] n.val.toUInt8)=zba (n.val:Int):=by decide+kernel
theorem zkW {c:Int} (h0:0≤c) (h1:c≤255):0≤Lib.indexByte [110,116,102,34,91,123,45,48,49,50,51,52,53,54,55,56,57] c.toNat.toUInt8↔zba c=true:=by
 obtain⟨n,rfl⟩:=Int.eq_ofNat_of_zero_le h0
 have:=idx_first256 ⟨n,by omega⟩
 rw[Int.toNat_natCast,←this,decide_eq_true_eq]
theorem zkj (l:List Int) (i:Nat):zba (ahL l i)=zba (atL l i):=by
 unfold ahL;split
 ·rename_i h;rw[h];decide
 ·rfl
theorem zcX (c:Int) (W:World):Calls Tryz.prog 161 #[.string ⟨#[110,116,102,34,91,123,45,48,49,50,51,52,53,54,55,56,57]⟩,.int .u8 c] W fun e w'=>e= .returned (.int .i64 (Lib.indexByte [110,116,102,34,91,123,45,48,49,50,51,52,53,54,55,56,57] c.toNat.toUInt8))∧w'=W:=
 Tryz.strings_IndexByte ⟨#[110,116,102,34,91,123,45,48,49,50,51,52,53,54,55,56,57]⟩ c W
theorem ValPost.bad {w:World} {rb:Nat} {s:ByteArray} {r:VR} {e:Ending} {w':World} {v:J} {p:Nat} {left er:Int} (hr:r=(v,p,left,er)) (he:er≠0) (h:ziJ w rb (p:Nat) er e w'):ValPost w rb s r e w':=by
 rw[hr];exact .inr ⟨he,h⟩
theorem zgi {w w5:World} {g rb:Nat} {s:ByteArray} {q:Nat} {n:Int} {r:VR} {j:J} {y0 y1 y2 y3 y4 a0 a1 a2 a3 a4:Value} (hg:w.heap.size≤g) (hne:rb<w.heap.size) (hgw:w.grownBy w5 (some rb)) (hr:Rdr w5 rb s (q:Nat) n) (hb:Blk w5 g 63 [y0,y1,y2,y3,y4])
  (hx:RepS w5 (fun b=>w.heap.size≤b∧b≠g) j (.agg #[a0,a1,a2,a3,a4])) (hq:q≤s.size) (er:r=(j,zaW (strL s) q,256-n,0)):
  Blk (((((w5.setCell ⟨g,0,none⟩ a0).setCell ⟨g,1,none⟩ a1).setCell ⟨g,2,none⟩ a2).setCell ⟨g,3,none⟩ a3).setCell ⟨g,4,none⟩ a4) g 63 [a0,a1,a2,a3,a4]∧
  ValPost w rb s r (.returned (.agg [a0,a1,a2,a3,a4].toArray)) (((((w5.setCell ⟨g,0,none⟩ a0).setCell ⟨g,1,none⟩ a1).setCell ⟨g,2,none⟩ a2).setCell ⟨g,3,none⟩ a3).setCell ⟨g,4,none⟩ a4):=by
 obtain⟨h1,h2⟩:=zdZ hb a0 a1 a2 a3 a4
 refine⟨h1,?_⟩
 rw[er]
 refine .inl ⟨rfl,_,q,rfl,?_,hq,rfl,hgw.andThen h2 (by intro j hj;injection hj with hj;left;omega),?_⟩
 ·exact RepS.keeps (S:=fun b=>w.heap.size≤b∧b≠g) ⟨h2.size,fun b hb hl=>h2.block b hl (by intro e;injection e with e;exact hb.2 e)⟩ (fun b hb _=>hb.1) _ _ hx
 ·rw[show 256-(256-n)=n by omega]
  exact Blk.grown hr h2 (by intro e;injection e with e;omega)
theorem value_none (s:ByteArray) (rb d:Nat) (hs:s.size≤10000) (hd:d≤8) (i:Nat) (left:Int) (w:World) (hi:i≤s.size) (h0:0≤left) (h1:left≤256) (hr:Rdr w rb s i (256-left)) (hg:GW w rb) (hc: ¬zba (atL (strL s) (zaW (strL s) i))=true):
  Calls Tryz.prog 128 #[.pointer (some ⟨rb,0,none⟩),.int .i64 (9-(d:Int))] w (ValPost w rb s (valueL (strL s) d (zaW (strL s) i) left)):=by
 have HLEN:=Lib.hid (zaQ s)
 have HW:=Lib.hid hr
 have HGW:=Lib.hid hg
 have hrlt:=hr.lt
 have HBL:=Lib.hid (fun(W:World) (hr:Rdr W rb s i (256-left))=>zbg rb s i _ W hr hi (by omega))
 have hsk:=zak (l:=strL s) (i:=i) (by rw[HLEN.out];exact hi)
 rw[HLEN.out]at hsk
 obtain⟨k,hk⟩: ∃k,k=zaW (strL s) i:=⟨_,rfl⟩
 rw[←hk]at HBL hsk hc⊢
 have hk2:=hsk.2
 have HAH:=Lib.hid (fun(W:World) (hr:Rdr W rb s k (256-left))=>zbi rb s k _ W hr hk2 (by omega))
 obtain⟨r,hrr⟩: ∃r,r=valueL (strL s) d k left:=⟨_,rfl⟩
 have hval:r=valF (strL s) (zgo (strL s) d) k left:=hrr.trans (zdj (strL s) d k left)
 rw[←hrr]
 clear hr hg hk hsk hrr
 have HV:Hid (r=(zeroJ,k,left,50)):=Lib.hid (hval.trans (by unfold valF;exact if_pos hc))
 have hb:=zmf s k
 have hnb: ¬zba (ahL (strL s) k)=true:=by rw[zkj];exact hc
 obtain⟨x,hx⟩: ∃x,x=ahL (strL s) k:=⟨_,rfl⟩
 rw[←hx]at HAH hb hnb
 have hix:=zkW hb.1 hb.2
 have HIX:=Lib.hid (fun W:World=>zcX x W)
 obtain⟨X,hX⟩: ∃X,X=Lib.indexByte [110,116,102,34,91,123,45,48,49,50,51,52,53,54,55,56,57] x.toNat.toUInt8:=⟨_,rfl⟩
 rw[←hX]at HIX hix
 have hlt:X<0:=by rcases Int.lt_or_le X 0 with h|h;exact h;exact absurd (hix.1 h) hnb
 clear hval hc hb hnb hx hix hX
 go_enter Tryz.func128,Tryz.ntmps128
 go_wp2_with(first|(refine zaK rfl (some 4) rfl _ rfl _ zgt ?_;intro g w1 hg1 hb1 hgr1;have HB0:=Lib.hid hb1;have HG0:=Lib.hid hgr1;have HR1:=Lib.hid (Blk.grownN HW.out hgr1);have hgn:=Nat.lt_of_lt_of_le hrlt hg1;clear hb1 hgr1;try go_frame)|(go_at_call 129;(with_reducible refine(HBL.out _ HR1.out).mono ?_);rintro e w2 ⟨rfl,hg2,hr2⟩;have HG2:=Lib.hid ((HG0.out.but (some rb)).trans hg2);have HR2:=Lib.hid hr2;have HB2:=Lib.hid (Blk.grown HB0.out hg2 (by intro e;injection e with e;omega));obtain⟨⟨c0,c1,c2⟩,f0,f1,f2⟩:=Rdr.cells hr2;clear hg2 hr2)|(go_at_call 160;(with_reducible refine(HAH.out _ HR2.out).mono ?_);rintro e w' ⟨rfl,q,rfl⟩)|(go_at_call 161;(with_reducible refine(HIX.out _).mono ?_);rintro e w' ⟨rfl,rfl⟩)|(go_at_call 130;(with_reducible refine(zbf _ _ _).mono ?_);rintro e w' ⟨rfl,rfl⟩))
 exact⟨rfl,ValPost.bad HV.out (by decide) ⟨rfl,HG2.out.trans (zbe q _)⟩⟩
theorem value_many (s:ByteArray) (rb d:Nat) (hs:s.size≤10000) (hd:d≤8) (i:Nat) (left:Int) (w:World) (hi:i≤s.size) (h0:0≤left) (h1:left≤256) (hr:Rdr w rb s i (256-left)) (hg:GW w rb) (hc:zba (atL (strL s) (zaW (strL s) i))=true) (hl:left=0):
  Calls Tryz.prog 128 #[.pointer (some ⟨rb,0,none⟩),.int .i64 (9-(d:Int))] w (ValPost w rb s (valueL (strL s) d (zaW (strL s) i) left)):=by
 have HLEN:=Lib.hid (zaQ s)
 have HW:=Lib.hid hr
 have HGW:=Lib.hid hg
 have hrlt:=hr.lt
 have HBL:=Lib.hid (fun(W:World) (hr:Rdr W rb s i (256-left))=>zbg rb s i _ W hr hi (by omega))
 have hsk:=zak (l:=strL s) (i:=i) (by rw[HLEN.out];exact hi)
 rw[HLEN.out]at hsk
 obtain⟨k,hk⟩: ∃k,k=zaW (strL s) i:=⟨_,rfl⟩
 rw[←hk]at HBL hsk hc⊢
 have hk2:=hsk.2
 have HAH:=Lib.hid (fun(W:World) (hr:Rdr W rb s k (256-left))=>zbi rb s k _ W hr hk2 (by omega))
 obtain⟨r,hrr⟩: ∃r,r=valueL (strL s) d k left:=⟨_,rfl⟩
 have hval:r=valF (strL s) (zgo (strL s) d) k left:=hrr.trans (zdj (strL s) d k left)
 rw[←hrr]
 clear hr hg hk hsk hrr
 subst hl
 have HV:Hid (r=(zeroJ,k, -1,53)):=Lib.hid (hval.trans (by unfold valF;rw[if_neg (fun h=>h hc)];exact if_pos (by decide)))
 have hb:=zmf s k
 have hnb:zba (ahL (strL s) k)=true:=by rw[zkj];exact hc
 obtain⟨x,hx⟩: ∃x,x=ahL (strL s) k:=⟨_,rfl⟩
 rw[←hx]at HAH hb hnb
 have hix:=zkW hb.1 hb.2
 have HIX:=Lib.hid (fun W:World=>zcX x W)
 obtain⟨X,hX⟩: ∃X,X=Lib.indexByte [110,116,102,34,91,123,45,48,49,50,51,52,53,54,55,56,57] x.toNat.toUInt8:=⟨_,rfl⟩
 rw[←hX]at HIX hix
 have hlt: ¬X<0:=by have:=hix.2 hnb;omega
 clear hval hc hb hnb hx hix hX
 go_enter Tryz.func128,Tryz.ntmps128
 go_wp2_with(first|(refine zaK rfl (some 4) rfl _ rfl _ zgt ?_;intro g w1 hg1 hb1 hgr1;have HB0:=Lib.hid hb1;have HG0:=Lib.hid hgr1;have HR1:=Lib.hid (Blk.grownN HW.out hgr1);have hgn:=Nat.lt_of_lt_of_le hrlt hg1;clear hb1 hgr1;try go_frame)|(go_at_call 129;(with_reducible refine(HBL.out _ HR1.out).mono ?_);rintro e w2 ⟨rfl,hg2,hr2⟩;have HG2:=Lib.hid ((HG0.out.but (some rb)).trans hg2);have HR2:=Lib.hid hr2;have HB2:=Lib.hid (Blk.grown HB0.out hg2 (by intro e;injection e with e;omega));obtain⟨⟨c0,c1,c2⟩,f0,f1,f2⟩:=Rdr.cells hr2;clear hg2 hr2)|(go_at_call 160;(with_reducible refine(HAH.out _ HR2.out).mono ?_);rintro e w' ⟨rfl,q,rfl⟩)|(go_at_call 161;(with_reducible refine(HIX.out _).mono ?_);rintro e w' ⟨rfl,rfl⟩)|(go_at_call 130;(with_reducible refine(zbf _ _ _).mono ?_);rintro e w' ⟨rfl,rfl⟩))
 exact⟨rfl,ValPost.bad HV.out (by decide) ⟨rfl,HG2.out.trans (zag _ q rb 2 _)⟩⟩
theorem value_null (s:ByteArray) (rb d:Nat) (hs:s.size≤10000) (hd:d≤8) (i:Nat) (left:Int) (w:World) (hi:i≤s.size) (h0:0≤left) (h1:left≤256) (hr:Rdr w rb s i (256-left)) (hg:GW w rb) (hl:1≤left) (hc:atL (strL s) (zaW (strL s) i)=110):
  Calls Tryz.prog 128 #[.pointer (some ⟨rb,0,none⟩),.int .i64 (9-(d:Int))] w (ValPost w rb s (valueL (strL s) d (zaW (strL s) i) left)):=by
 have HLEN:=Lib.hid (zaQ s)
 have HW:=Lib.hid hr
 have HGW:=Lib.hid hg
 have hrlt:=hr.lt
 have HBL:=Lib.hid (fun(W:World) (hr:Rdr W rb s i (256-left))=>zbg rb s i _ W hr hi (by omega))
 have hsk:=zak (l:=strL s) (i:=i) (by rw[HLEN.out];exact hi)
 rw[HLEN.out]at hsk
 obtain⟨k,hk⟩: ∃k,k=zaW (strL s) i:=⟨_,rfl⟩
 rw[←hk]at HBL hsk hc⊢
 have hk2:=hsk.2
 have HAH:=Lib.hid (fun(W:World) (hr:Rdr W rb s k (256-left))=>zbi rb s k _ W hr hk2 (by omega))
 obtain⟨r,hrr⟩: ∃r,r=valueL (strL s) d k left:=⟨_,rfl⟩
 have hval:r=valF (strL s) (zgo (strL s) d) k left:=hrr.trans (zdj (strL s) d k left)
 rw[←hrr]
 clear hr hg hk hsk hrr
 have HV:Hid (r=zdh (strL s) (left-1) zeroJ (zci (strL s) k [110,117,108,108])):=Lib.hid (hval.trans (by unfold valF;rw[if_neg (show ¬ ¬zba (atL (strL s) k)=true by rw[hc];decide),if_neg (show ¬left-1<0 by omega)];rw[if_neg (by omega),if_pos hc]))
 have HWD:=Lib.hid (fun(W:World) (hr:Rdr W rb s k (256-(left-1)))=>zmh rb s ⟨#[110,117,108,108]⟩ k _ W hr hk2 (by omega) (by decide) (by decide))
 rw[show strL ⟨#[110,117,108,108]⟩=[110,117,108,108]from rfl]at HWD
 obtain⟨T,hT⟩: ∃T,T=zci (strL s) k [110,117,108,108]:=⟨_,rfl⟩
 have hTl:T.2=0→T.1≤s.size:=fun _=>by rw[hT,←HLEN.out];exact zgv (by decide) (by rw[HLEN.out];exact hk2)
 rw[←hT]at HV HWD
 have HTL:=Lib.hid hTl
 have hlt:k<s.size:=by rw[←HLEN.out];exact zbZ (by omega)
 rw[(zff (by decide)).2 hc]at HAH
 have HIX:=Lib.hid (fun W:World=>zcX 110 W)
 obtain⟨X,hX⟩: ∃X,X=Lib.indexByte [110,116,102,34,91,123,45,48,49,50,51,52,53,54,55,56,57] ((110:Int).toNat.toUInt8):=⟨_,rfl⟩
 rw[←hX]at HIX
 have hX0: ¬X<0:=by rw[hX];decide
 have hmx:decide ((256:Int)<256-left+1)=false:=decide_eq_false (by omega)
 clear hX
 clear hval hc hT hTl
 go_enter Tryz.func128,Tryz.ntmps128
 go_wp2_with(first|(refine zaK rfl (some 4) rfl _ rfl _ zgt ?_;intro g w1 hg1 hb1 hgr1;have HB0:=Lib.hid hb1;have HG0:=Lib.hid hgr1;have HR1:=Lib.hid (Blk.grownN HW.out hgr1);have hgn:=Nat.lt_of_lt_of_le hrlt hg1;clear hb1 hgr1;try go_frame)|(go_at_call 129;(with_reducible refine(HBL.out _ HR1.out).mono ?_);rintro e w2 ⟨rfl,hg2,hr2⟩;have HG2:=Lib.hid ((HG0.out.but (some rb)).trans hg2);have HR2:=Lib.hid hr2;have HB2:=Lib.hid (Blk.grown HB0.out hg2 (by intro e;injection e with e;omega));obtain⟨⟨c0,c1,c2⟩,f0,f1,f2⟩:=Rdr.cells hr2;clear hg2 hr2)|(go_at_call 160;(with_reducible refine(HAH.out _ HR2.out).mono ?_);rintro e w' ⟨rfl,q,rfl⟩)|(go_at_call 161;(with_reducible refine(HIX.out _).mono ?_);rintro e w' ⟨rfl,rfl⟩))
 refine(HWD.out _ (zdx (Rdr.counts (HR2.out.drewN q) _) (by omega))).mono ?_
 rintro e w5 (⟨ht,rfl,hg5,hr5⟩|⟨ht,rfl,hg5⟩)
 ·have HV2:Hid (r=(zeroJ,zaW (strL s) T.1,left-1,0)):=Lib.hid (HV.out.trans (by unfold zdh;exact if_neg (fun h=>h ht)))
  have hq:=HTL.out ht
  have HG5:=Lib.hid ((HG2.out.trans (zag w2 q rb 2 (.int .i64 (256-left+1)))).trans hg5)
  have HR5:=Lib.hid hr5
  have hb5:=Blk.grown (Blk.grown HB2.out (zag w2 q rb 2 (.int .i64 (256-left+1))) (by intro e;injection e with e;omega)) hg5 (by intro e;injection e with e;omega)
  clear ht hg5 hr5
  obtain⟨b0,b1,b2,b3,b4⟩:w5.cell? ⟨g,0,none⟩=some (.int .i64 0)∧w5.cell? ⟨g,1,none⟩=some (.int .i64 0)∧w5.cell? ⟨g,2,none⟩=some (.string ⟨#[]⟩)∧w5.cell? ⟨g,3,none⟩=some (.slice none 0 0)∧w5.cell? ⟨g,4,none⟩=some (.slice none 0 0):=⟨hb5.cell 0,hb5.cell 1,hb5.cell 2,hb5.cell 3,hb5.cell 4⟩
  obtain⟨z0,z1,z2,z3,z4⟩:w5.frozen? ⟨g,0,none⟩=false∧w5.frozen? ⟨g,1,none⟩=false∧w5.frozen? ⟨g,2,none⟩=false∧w5.frozen? ⟨g,3,none⟩=false∧w5.frozen? ⟨g,4,none⟩=false:=⟨hb5.frozen 0,hb5.frozen 1,hb5.frozen 2,hb5.frozen 3,hb5.frozen 4⟩
  have HF:=Lib.hid (zgi (r:=r) hg1 hrlt HG5.out HR5.out hb5 (j:=zeroJ) (a0:= .int .i64 0) (a1:= .int .i64 0) (a2:= .string ⟨#[]⟩) (a3:= .slice none 0 0) (a4:= .slice none 0 0) (RepS.zero _ _) hq (HV2.out.trans (by rw[show 256-(256-(left-1))=left-1 by omega]<;>rfl)))
  clear hb5
  go_wp2
  refine bodyPost_ret (zbW Tryz.results128 _ _ g _ _ _ rfl HF.out.1 Tryz.underlying63 rfl zau) rfl HF.out.2
 ·have HV2:Hid (r=(zeroJ,T.1,left-1,T.2)):=Lib.hid (HV.out.trans (by unfold zdh;exact if_pos ht))
  have HG5:=Lib.hid hg5
  have HT:=Lib.hid ht
  clear ht hg5
  go_wp2
  exact⟨rfl,ValPost.bad HV2.out HT.out ⟨rfl,(HG2.out.trans (zag w2 q rb 2 (.int .i64 (256-left+1)))).trans HG5.out⟩⟩
theorem value_true (s:ByteArray) (rb d:Nat) (hs:s.size≤10000) (hd:d≤8) (i:Nat) (left:Int) (w:World) (hi:i≤s.size) (h0:0≤left) (h1:left≤256) (hr:Rdr w rb s i (256-left)) (hg:GW w rb) (hl:1≤left) (hc:atL (strL s) (zaW (strL s) i)=116):
  Calls Tryz.prog 128 #[.pointer (some ⟨rb,0,none⟩),.int .i64 (9-(d:Int))] w (ValPost w rb s (valueL (strL s) d (zaW (strL s) i) left)):=by
 have HLEN:=Lib.hid (zaQ s)
 have HW:=Lib.hid hr
 have HGW:=Lib.hid hg
 have hrlt:=hr.lt
 have HBL:=Lib.hid (fun(W:World) (hr:Rdr W rb s i (256-left))=>zbg rb s i _ W hr hi (by omega))
 have hsk:=zak (l:=strL s) (i:=i) (by rw[HLEN.out];exact hi)
 rw[HLEN.out]at hsk
 obtain⟨k,hk⟩: ∃k,k=zaW (strL s) i:=⟨_,rfl⟩
 rw[←hk]at HBL hsk hc⊢
 have hk2:=hsk.2
 have HAH:=Lib.hid (fun(W:World) (hr:Rdr W rb s k (256-left))=>zbi rb s k _ W hr hk2 (by omega))
 obtain⟨r,hrr⟩: ∃r,r=valueL (strL s) d k left:=⟨_,rfl⟩
 have hval:r=valF (strL s) (zgo (strL s) d) k left:=hrr.trans (zdj (strL s) d k left)
 rw[←hrr]
 clear hr hg hk hsk hrr
 have HV:Hid (r=zdh (strL s) (left-1) (.mk 1 1 ⟨#[]⟩ [] []) (zci (strL s) k [116,114,117,101])):=Lib.hid (hval.trans (by unfold valF;rw[if_neg (show ¬ ¬zba (atL (strL s) k)=true by rw[hc];decide),if_neg (show ¬left-1<0 by omega)];rw[if_neg (by omega),if_neg (by omega),if_pos hc]))
 have HWD:=Lib.hid (fun(W:World) (hr:Rdr W rb s k (256-(left-1)))=>zmh rb s ⟨#[116,114,117,101]⟩ k _ W hr hk2 (by omega) (by decide) (by decide))
 rw[show strL ⟨#[116,114,117,101]⟩=[116,114,117,101]from rfl]at HWD
 obtain⟨T,hT⟩: ∃T,T=zci (strL s) k [116,114,117,101]:=⟨_,rfl⟩
 have hTl:T.2=0→T.1≤s.size:=fun _=>by rw[hT,←HLEN.out];exact zgv (by decide) (by rw[HLEN.out];exact hk2)
 rw[←hT]at HV HWD
 have HTL:=Lib.hid hTl
 have hlt:k<s.size:=by rw[←HLEN.out];exact zbZ (by omega)
 rw[(zff (by decide)).2 hc]at HAH
 have HIX:=Lib.hid (fun W:World=>zcX 116 W)
 obtain⟨X,hX⟩: ∃X,X=Lib.indexByte [110,116,102,34,91,123,45,48,49,50,51,52,53,54,55,56,57] ((116:Int).toNat.toUInt8):=⟨_,rfl⟩
 rw[←hX]at HIX
 have hX0: ¬X<0:=by rw[hX];decide
 have hmx:decide ((256:Int)<256-left+1)=false:=decide_eq_false (by omega)
 clear hX
 clear hval hc hT hTl
 go_enter Tryz.func128,Tryz.ntmps128
 go_wp2_with(first|(refine zaK rfl (some 4) rfl _ rfl _ zgt ?_;intro g w1 hg1 hb1 hgr1;have HB0:=Lib.hid hb1;have HG0:=Lib.hid hgr1;have HR1:=Lib.hid (Blk.grownN HW.out hgr1);have hgn:=Nat.lt_of_lt_of_le hrlt hg1;clear hb1 hgr1;try go_frame)|(go_at_call 129;(with_reducible refine(HBL.out _ HR1.out).mono ?_);rintro e w2 ⟨rfl,hg2,hr2⟩;have HG2:=Lib.hid ((HG0.out.but (some rb)).trans hg2);have HR2:=Lib.hid hr2;have HB2:=Lib.hid (Blk.grown HB0.out hg2 (by intro e;injection e with e;omega));obtain⟨⟨c0,c1,c2⟩,f0,f1,f2⟩:=Rdr.cells hr2;clear hg2 hr2)|(go_at_call 160;(with_reducible refine(HAH.out _ HR2.out).mono ?_);rintro e w' ⟨rfl,q,rfl⟩)|(go_at_call 161;(with_reducible refine(HIX.out _).mono ?_);rintro e w' ⟨rfl,rfl⟩))
 refine(HWD.out _ (zdx (Rdr.counts (HR2.out.drewN q) _) (by omega))).mono ?_
 rintro e w5 (⟨ht,rfl,hg5,hr5⟩|⟨ht,rfl,hg5⟩)
 ·have HV2:Hid (r=((.mk 1 1 ⟨#[]⟩ [] []),zaW (strL s) T.1,left-1,0)):=Lib.hid (HV.out.trans (by unfold zdh;exact if_neg (fun h=>h ht)))
  have hq:=HTL.out ht
  have HG5:=Lib.hid ((HG2.out.trans (zag w2 q rb 2 (.int .i64 (256-left+1)))).trans hg5)
  have HR5:=Lib.hid hr5
  have hb5:=Blk.grown (Blk.grown HB2.out (zag w2 q rb 2 (.int .i64 (256-left+1))) (by intro e;injection e with e;omega)) hg5 (by intro e;injection e with e;omega)
  clear ht hg5 hr5
  have HB5:=Lib.hid hb5
  go_wp2_with fail
  refine(bool_any true _).mono ?_
  rintro e w6 ⟨he,hb6⟩
  rw[show((if true=true then 1 else 0:Int))=1 from rfl]at he
  subst he
  have HB6:=Lib.hid hb6
  clear hb6
  have hb6:=Blk.below HB5.out HB6.out HB5.out.lt
  obtain⟨b0,b1,b2,b3,b4⟩:w6.cell? ⟨g,0,none⟩=some (.int .i64 0)∧w6.cell? ⟨g,1,none⟩=some (.int .i64 0)∧w6.cell? ⟨g,2,none⟩=some (.string ⟨#[]⟩)∧w6.cell? ⟨g,3,none⟩=some (.slice none 0 0)∧w6.cell? ⟨g,4,none⟩=some (.slice none 0 0):=⟨hb6.cell 0,hb6.cell 1,hb6.cell 2,hb6.cell 3,hb6.cell 4⟩
  obtain⟨z0,z1,z2,z3,z4⟩:w6.frozen? ⟨g,0,none⟩=false∧w6.frozen? ⟨g,1,none⟩=false∧w6.frozen? ⟨g,2,none⟩=false∧w6.frozen? ⟨g,3,none⟩=false∧w6.frozen? ⟨g,4,none⟩=false:=⟨hb6.frozen 0,hb6.frozen 1,hb6.frozen 2,hb6.frozen 3,hb6.frozen 4⟩
  have HF:=Lib.hid (zgi (r:=r) hg1 hrlt (HG5.out.trans (zaX HB6.out _)) (Blk.below HR5.out HB6.out HR5.out.lt) hb6 (RepS.plain _ _ 1 1 ⟨#[]⟩ (by decide)) hq (HV2.out.trans (by rw[show 256-(256-(left-1))=left-1 by omega]<;>rfl)))
  clear hb6
  go_wp2
  refine bodyPost_ret (zbW Tryz.results128 _ _ g _ _ _ rfl HF.out.1 Tryz.underlying63 rfl zau) rfl HF.out.2
 ·have HV2:Hid (r=(zeroJ,T.1,left-1,T.2)):=Lib.hid (HV.out.trans (by unfold zdh;exact if_pos ht))
  have HG5:=Lib.hid hg5
  have HT:=Lib.hid ht
  clear ht hg5
  go_wp2
  exact⟨rfl,ValPost.bad HV2.out HT.out ⟨rfl,(HG2.out.trans (zag w2 q rb 2 (.int .i64 (256-left+1)))).trans HG5.out⟩⟩
theorem value_false (s:ByteArray) (rb d:Nat) (hs:s.size≤10000) (hd:d≤8) (i:Nat) (left:Int) (w:World) (hi:i≤s.size) (h0:0≤left) (h1:left≤256) (hr:Rdr w rb s i (256-left)) (hg:GW w rb) (hl:1≤left) (hc:atL (strL s) (zaW (strL s) i)=102):
  Calls Tryz.prog 128 #[.pointer (some ⟨rb,0,none⟩),.int .i64 (9-(d:Int))] w (ValPost w rb s (valueL (strL s) d (zaW (strL s) i) left)):=by
 have HLEN:=Lib.hid (zaQ s)
 have HW:=Lib.hid hr
 have HGW:=Lib.hid hg
 have hrlt:=hr.lt
 have HBL:=Lib.hid (fun(W:World) (hr:Rdr W rb s i (256-left))=>zbg rb s i _ W hr hi (by omega))
 have hsk:=zak (l:=strL s) (i:=i) (by rw[HLEN.out];exact hi)
 rw[HLEN.out]at hsk
 obtain⟨k,hk⟩: ∃k,k=zaW (strL s) i:=⟨_,rfl⟩
 rw[←hk]at HBL hsk hc⊢
 have hk2:=hsk.2
 have HAH:=Lib.hid (fun(W:World) (hr:Rdr W rb s k (256-left))=>zbi rb s k _ W hr hk2 (by omega))
 obtain⟨r,hrr⟩: ∃r,r=valueL (strL s) d k left:=⟨_,rfl⟩
 have hval:r=valF (strL s) (zgo (strL s) d) k left:=hrr.trans (zdj (strL s) d k left)
 rw[←hrr]
 clear hr hg hk hsk hrr
 have HV:Hid (r=zdh (strL s) (left-1) (.mk 1 0 ⟨#[]⟩ [] []) (zci (strL s) k [102,97,108,115,101])):=Lib.hid (hval.trans (by unfold valF;rw[if_neg (show ¬ ¬zba (atL (strL s) k)=true by rw[hc];decide),if_neg (show ¬left-1<0 by omega)];rw[if_neg (by omega),if_neg (by omega),if_neg (by omega),if_pos hc]))
 have HWD:=Lib.hid (fun(W:World) (hr:Rdr W rb s k (256-(left-1)))=>zmh rb s ⟨#[102,97,108,115,101]⟩ k _ W hr hk2 (by omega) (by decide) (by decide))
 rw[show strL ⟨#[102,97,108,115,101]⟩=[102,97,108,115,101]from rfl]at HWD
 obtain⟨T,hT⟩: ∃T,T=zci (strL s) k [102,97,108,115,101]:=⟨_,rfl⟩
 have hTl:T.2=0→T.1≤s.size:=fun _=>by rw[hT,←HLEN.out];exact zgv (by decide) (by rw[HLEN.out];exact hk2)
 rw[←hT]at HV HWD
 have HTL:=Lib.hid hTl
 have hlt:k<s.size:=by rw[←HLEN.out];exact zbZ (by omega)
 rw[(zff (by decide)).2 hc]at HAH
 have HIX:=Lib.hid (fun W:World=>zcX 102 W)
 obtain⟨X,hX⟩: ∃X,X=Lib.indexByte [110,116,102,34,91,123,45,48,49,50,51,52,53,54,55,56,57] ((102:Int).toNat.toUInt8):=⟨_,rfl⟩
 rw[←hX]at HIX
 have hX0: ¬X<0:=by rw[hX];decide
 have hmx:decide ((256:Int)<256-left+1)=false:=decide_eq_false (by omega)
 clear hX
 clear hval hc hT hTl
 go_enter Tryz.func128,Tryz.ntmps128
 go_wp2_with(first|(refine zaK rfl (some 4) rfl _ rfl _ zgt ?_;intro g w1 hg1 hb1 hgr1;have HB0:=Lib.hid hb1;have HG0:=Lib.hid hgr1;have HR1:=Lib.hid (Blk.grownN HW.out hgr1);have hgn:=Nat.lt_of_lt_of_le hrlt hg1;clear hb1 hgr1;try go_frame)|(go_at_call 129;(with_reducible refine(HBL.out _ HR1.out).mono ?_);rintro e w2 ⟨rfl,hg2,hr2⟩;have HG2:=Lib.hid ((HG0.out.but (some rb)).trans hg2);have HR2:=Lib.hid hr2;have HB2:=Lib.hid (Blk.grown HB0.out hg2 (by intro e;injection e with e;omega));obtain⟨⟨c0,c1,c2⟩,f0,f1,f2⟩:=Rdr.cells hr2;clear hg2 hr2)|(go_at_call 160;(with_reducible refine(HAH.out _ HR2.out).mono ?_);rintro e w' ⟨rfl,q,rfl⟩)|(go_at_call 161;(with_reducible refine(HIX.out _).mono ?_);rintro e w' ⟨rfl,rfl⟩))
 refine(HWD.out _ (zdx (Rdr.counts (HR2.out.drewN q) _) (by omega))).mono ?_
 rintro e w5 (⟨ht,rfl,hg5,hr5⟩|⟨ht,rfl,hg5⟩)
 ·have HV2:Hid (r=((.mk 1 0 ⟨#[]⟩ [] []),zaW (strL s) T.1,left-1,0)):=Lib.hid (HV.out.trans (by unfold zdh;exact if_neg (fun h=>h ht)))
  have hq:=HTL.out ht
  have HG5:=Lib.hid ((HG2.out.trans (zag w2 q rb 2 (.int .i64 (256-left+1)))).trans hg5)
  have HR5:=Lib.hid hr5
  have hb5:=Blk.grown (Blk.grown HB2.out (zag w2 q rb 2 (.int .i64 (256-left+1))) (by intro e;injection e with e;omega)) hg5 (by intro e;injection e with e;omega)
  clear ht hg5 hr5
  have HB5:=Lib.hid hb5
  go_wp2_with fail
  refine(bool_any false _).mono ?_
  rintro e w6 ⟨he,hb6⟩
  rw[show((if false=true then 1 else 0:Int))=0 from rfl]at he
  subst he
  have HB6:=Lib.hid hb6
  clear hb6
  have hb6:=Blk.below HB5.out HB6.out HB5.out.lt
  obtain⟨b0,b1,b2,b3,b4⟩:w6.cell? ⟨g,0,none⟩=some (.int .i64 0)∧w6.cell? ⟨g,1,none⟩=some (.int .i64 0)∧w6.cell? ⟨g,2,none⟩=some (.string ⟨#[]⟩)∧w6.cell? ⟨g,3,none⟩=some (.slice none 0 0)∧w6.cell? ⟨g,4,none⟩=some (.slice none 0 0):=⟨hb6.cell 0,hb6.cell 1,hb6.cell 2,hb6.cell 3,hb6.cell 4⟩
  obtain⟨z0,z1,z2,z3,z4⟩:w6.frozen? ⟨g,0,none⟩=false∧w6.frozen? ⟨g,1,none⟩=false∧w6.frozen? ⟨g,2,none⟩=false∧w6.frozen? ⟨g,3,none⟩=false∧w6.frozen? ⟨g,4,none⟩=false:=⟨hb6.frozen 0,hb6.frozen 1,hb6.frozen 2,hb6.frozen 3,hb6.frozen 4⟩
  have HF:=Lib.hid (zgi (r:=r) hg1 hrlt (HG5.out.trans (zaX HB6.out _)) (Blk.below HR5.out HB6.out HR5.out.lt) hb6 (RepS.plain _ _ 1 0 ⟨#[]⟩ (by decide)) hq (HV2.out.trans (by rw[show 256-(256-(left-1))=left-1 by omega]<;>rfl)))
  clear hb6
  go_wp2
  refine bodyPost_ret (zbW Tryz.results128 _ _ g _ _ _ rfl HF.out.1 Tryz.underlying63 rfl zau) rfl HF.out.2
 ·have HV2:Hid (r=(zeroJ,T.1,left-1,T.2)):=Lib.hid (HV.out.trans (by unfold zdh;exact if_pos ht))
  have HG5:=Lib.hid hg5
  have HT:=Lib.hid ht
  clear ht hg5
  go_wp2
  exact⟨rfl,ValPost.bad HV2.out HT.out ⟨rfl,(HG2.out.trans (zag w2 q rb 2 (.int .i64 (256-left+1)))).trans HG5.out⟩⟩
theorem value_text (s:ByteArray) (rb d:Nat) (hs:s.size≤10000) (hd:d≤8) (i:Nat) (left:Int) (w:World) (hi:i≤s.size) (h0:0≤left) (h1:left≤256) (hr:Rdr w rb s i (256-left)) (hg:GW w rb) (hl:1≤left) (hc:atL (strL s) (zaW (strL s) i)=34):
  Calls Tryz.prog 128 #[.pointer (some ⟨rb,0,none⟩),.int .i64 (9-(d:Int))] w (ValPost w rb s (valueL (strL s) d (zaW (strL s) i) left)):=by
 have HLEN:=Lib.hid (zaQ s)
 have HW:=Lib.hid hr
 have HGW:=Lib.hid hg
 have hrlt:=hr.lt
 have HBL:=Lib.hid (fun(W:World) (hr:Rdr W rb s i (256-left))=>zbg rb s i _ W hr hi (by omega))
 have hsk:=zak (l:=strL s) (i:=i) (by rw[HLEN.out];exact hi)
 rw[HLEN.out]at hsk
 obtain⟨k,hk⟩: ∃k,k=zaW (strL s) i:=⟨_,rfl⟩
 rw[←hk]at HBL hsk hc⊢
 have hk2:=hsk.2
 have HAH:=Lib.hid (fun(W:World) (hr:Rdr W rb s k (256-left))=>zbi rb s k _ W hr hk2 (by omega))
 obtain⟨r,hrr⟩: ∃r,r=valueL (strL s) d k left:=⟨_,rfl⟩
 have hval:r=valF (strL s) (zgo (strL s) d) k left:=hrr.trans (zdj (strL s) d k left)
 rw[←hrr]
 clear hr hg hk hsk hrr
 have HV:Hid (r=zdh (strL s) (left-1) (.mk 3 0 (toS (zan (strL s) k).1) [] []) (zan (strL s) k).2):=Lib.hid (hval.trans (by unfold valF;rw[if_neg (show ¬ ¬zba (atL (strL s) k)=true by rw[hc];decide),if_neg (show ¬left-1<0 by omega)];rw[if_neg (by omega),if_neg (by omega),if_neg (by omega),if_neg (by omega),if_pos hc]))
 have HWD:=Lib.hid (fun(W:World) (hr:Rdr W rb s k (256-(left-1))) (hg:GW W rb)=>zli rb s k _ W hr hg hk2 (by omega))
 have hTl:=zdr (strL s) k
 have hTn:=zjp (strL s) k
 unfold EscTells at HWD
 obtain⟨T,hT⟩: ∃T,T=zan (strL s) k:=⟨_,rfl⟩
 rw[←hT]at HV HWD hTl hTn
 rw[HLEN.out]at hTl hTn
 have HTL:=Lib.hid hTl
 have hTs:(toS T.1).size≤9223372036854775807:=by rw[zcm];omega
 have hlt:k<s.size:=by rw[←HLEN.out];exact zbZ (by omega)
 rw[(zff (by decide)).2 hc]at HAH
 have HIX:=Lib.hid (fun W:World=>zcX 34 W)
 obtain⟨X,hX⟩: ∃X,X=Lib.indexByte [110,116,102,34,91,123,45,48,49,50,51,52,53,54,55,56,57] ((34:Int).toNat.toUInt8):=⟨_,rfl⟩
 rw[←hX]at HIX
 have hX0: ¬X<0:=by rw[hX];decide
 have hmx:decide ((256:Int)<256-left+1)=false:=decide_eq_false (by omega)
 clear hX
 clear hval hc hT hTl hTn
 go_enter Tryz.func128,Tryz.ntmps128
 go_wp2_with(first|(refine zaK rfl (some 4) rfl _ rfl _ zgt ?_;intro g w1 hg1 hb1 hgr1;have HB0:=Lib.hid hb1;have HG0:=Lib.hid hgr1;have HR1:=Lib.hid (Blk.grownN HW.out hgr1);have hgn:=Nat.lt_of_lt_of_le hrlt hg1;clear hb1 hgr1;try go_frame)|(go_at_call 129;(with_reducible refine(HBL.out _ HR1.out).mono ?_);rintro e w2 ⟨rfl,hg2,hr2⟩;have HG2:=Lib.hid ((HG0.out.but (some rb)).trans hg2);have HR2:=Lib.hid hr2;have HB2:=Lib.hid (Blk.grown HB0.out hg2 (by intro e;injection e with e;omega));obtain⟨⟨c0,c1,c2⟩,f0,f1,f2⟩:=Rdr.cells hr2;clear hg2 hr2)|(go_at_call 160;(with_reducible refine(HAH.out _ HR2.out).mono ?_);rintro e w' ⟨rfl,q,rfl⟩)|(go_at_call 161;(with_reducible refine(HIX.out _).mono ?_);rintro e w' ⟨rfl,rfl⟩))
 refine(HWD.out _ (zdx (Rdr.counts (HR2.out.drewN q) _) (by omega)) (HGW.out.grown (HG2.out.trans (zag w2 q rb 2 (.int .i64 (256-left+1)))))).mono ?_
 rintro e w5 (⟨ht,rfl,hg5,hr5⟩|⟨ht,rfl,hg5⟩)
 ·have HV2:Hid (r=(.mk 3 0 (toS T.1) [] [],zaW (strL s) T.2.1,left-1,0)):=Lib.hid (HV.out.trans (by unfold zdh;exact if_neg (fun h=>h ht)))
  have hq:=HTL.out ht
  have HG5:=Lib.hid ((HG2.out.trans (zag w2 q rb 2 (.int .i64 (256-left+1)))).trans hg5)
  have HR5:=Lib.hid hr5
  have HB5:=Lib.hid (Blk.grown (Blk.grown HB2.out (zag w2 q rb 2 (.int .i64 (256-left+1))) (by intro e;injection e with e;omega)) hg5 (by intro e;injection e with e;omega))
  clear ht hg5 hr5
  obtain⟨S,hS⟩: ∃S,S=toS T.1:=⟨_,rfl⟩
  rw[←hS]at HV2 hTs⊢
  clear hS
  go_wp2_with fail
  refine(zgw S _ hTs).mono ?_
  rintro e w6 ⟨rfl,hb6⟩
  have HB6:=Lib.hid hb6
  clear hb6
  have hb6:=Blk.below HB5.out HB6.out HB5.out.lt
  obtain⟨b0,b1,b2,b3,b4⟩:w6.cell? ⟨g,0,none⟩=some (.int .i64 0)∧w6.cell? ⟨g,1,none⟩=some (.int .i64 0)∧w6.cell? ⟨g,2,none⟩=some (.string ⟨#[]⟩)∧w6.cell? ⟨g,3,none⟩=some (.slice none 0 0)∧w6.cell? ⟨g,4,none⟩=some (.slice none 0 0):=⟨hb6.cell 0,hb6.cell 1,hb6.cell 2,hb6.cell 3,hb6.cell 4⟩
  obtain⟨z0,z1,z2,z3,z4⟩:w6.frozen? ⟨g,0,none⟩=false∧w6.frozen? ⟨g,1,none⟩=false∧w6.frozen? ⟨g,2,none⟩=false∧w6.frozen? ⟨g,3,none⟩=false∧w6.frozen? ⟨g,4,none⟩=false:=⟨hb6.frozen 0,hb6.frozen 1,hb6.frozen 2,hb6.frozen 3,hb6.frozen 4⟩
  have HF:=Lib.hid (zgi (r:=r) hg1 hrlt (HG5.out.trans (zaX HB6.out _)) (Blk.below HR5.out HB6.out HR5.out.lt) hb6 (RepS.plain _ _ 3 0 S hTs) hq (HV2.out.trans (by rw[show 256-(256-(left-1))=left-1 by omega]<;>rfl)))
  clear hb6
  go_wp2
  refine bodyPost_ret (zbW Tryz.results128 _ _ g _ _ _ rfl HF.out.1 Tryz.underlying63 rfl zau) rfl HF.out.2
 ·have HV2:Hid (r=(zeroJ,T.2.1,left-1,T.2.2)):=Lib.hid (HV.out.trans (by unfold zdh;exact if_pos ht))
  have HG5:=Lib.hid hg5
  have HT:=Lib.hid ht
  clear ht hg5
  go_wp2
  exact⟨rfl,ValPost.bad HV2.out HT.out ⟨rfl,(HG2.out.trans (zag w2 q rb 2 (.int .i64 (256-left+1)))).trans HG5.out⟩⟩
theorem value_number (s:ByteArray) (rb d:Nat) (hs:s.size≤10000) (hd:d≤8) (i:Nat) (left:Int) (w:World) (hi:i≤s.size) (h0:0≤left) (h1:left≤256) (hr:Rdr w rb s i (256-left)) (hg:GW w rb) (hl:1≤left) (hc:atL (strL s) (zaW (strL s) i)=45∨(48≤atL (strL s) (zaW (strL s) i)∧atL (strL s) (zaW (strL s) i)≤57)):
  Calls Tryz.prog 128 #[.pointer (some ⟨rb,0,none⟩),.int .i64 (9-(d:Int))] w (ValPost w rb s (valueL (strL s) d (zaW (strL s) i) left)):=by
 have HLEN:=Lib.hid (zaQ s)
 have HW:=Lib.hid hr
 have HGW:=Lib.hid hg
 have hrlt:=hr.lt
 have HBL:=Lib.hid (fun(W:World) (hr:Rdr W rb s i (256-left))=>zbg rb s i _ W hr hi (by omega))
 have hsk:=zak (l:=strL s) (i:=i) (by rw[HLEN.out];exact hi)
 rw[HLEN.out]at hsk
 obtain⟨k,hk⟩: ∃k,k=zaW (strL s) i:=⟨_,rfl⟩
 rw[←hk]at HBL hsk hc⊢
 have hk2:=hsk.2
 have HAH:=Lib.hid (fun(W:World) (hr:Rdr W rb s k (256-left))=>zbi rb s k _ W hr hk2 (by omega))
 obtain⟨r,hrr⟩: ∃r,r=valueL (strL s) d k left:=⟨_,rfl⟩
 have hval:r=valF (strL s) (zgo (strL s) d) k left:=hrr.trans (zdj (strL s) d k left)
 rw[←hrr]
 clear hr hg hk hsk hrr
 have hbg:zba (atL (strL s) k)=true:=by unfold zba;rw[decide_eq_true_eq];omega
 have HV:Hid (r=if zbY ((strL s).drop k)=0 then(zeroJ,k+1,left-1,50)else if fitL (((strL s).drop k).take (zbY ((strL s).drop k))) (-9007199254740991) 9007199254740991=true then(.mk 2 (numL (((strL s).drop k).take (zbY ((strL s).drop k)))) ⟨#[]⟩ [] [],zaW (strL s) (k+zbY ((strL s).drop k)),left-1,0)else(zeroJ,k,left-1,41)):=Lib.hid (hval.trans (by unfold valF;rw[if_neg (fun h=>h hbg),if_neg (show ¬left-1<0 by omega),if_pos hc]))
 have HWD:=Lib.hid (fun(W:World) (hr:Rdr W rb s k (256-(left-1)))=>number_any rb s k _ W hr hk2 (by omega))
 unfold zoZ at HWD
 have hle:=zfY ((strL s).drop k)
 rw[List.length_drop,HLEN.out]at hle
 have hb:=zmf s k
 have hnb:zba (ahL (strL s) k)=true:=by rw[zkj];exact hbg
 have hlt:k<s.size:=by rw[←HLEN.out];exact zbZ (by omega)
 have hx6: ∀c,0<c→atL (strL s) k≠c→(ahL (strL s) k==c)=false:=fun c h0 h=>by rw[beq_eq_false_iff_ne];exact zme h0 h
 obtain⟨n1,n2,n3,n4,n5,n6⟩:=And.intro (hx6 110 (by decide) (by omega)) (And.intro (hx6 116 (by decide) (by omega)) (And.intro (hx6 102 (by decide) (by omega)) (And.intro (hx6 34 (by decide) (by omega)) (And.intro (hx6 91 (by decide) (by omega)) (hx6 123 (by decide) (by omega))))))
 obtain⟨x,hx⟩: ∃x,x=ahL (strL s) k:=⟨_,rfl⟩
 rw[←hx]at HAH hb hnb n1 n2 n3 n4 n5 n6
 have hix:=zkW hb.1 hb.2
 have HIX:=Lib.hid (fun W:World=>zcX x W)
 obtain⟨X,hX⟩: ∃X,X=Lib.indexByte [110,116,102,34,91,123,45,48,49,50,51,52,53,54,55,56,57] x.toNat.toUInt8:=⟨_,rfl⟩
 rw[←hX]at HIX hix
 have hX0: ¬X<0:=by have:=hix.2 hnb;omega
 have hmx:decide ((256:Int)<256-left+1)=false:=decide_eq_false (by omega)
 obtain⟨m,hm⟩: ∃m,m=zbY ((strL s).drop k):=⟨_,rfl⟩
 rw[←hm]at HV HWD hle
 obtain⟨Fb,hF⟩: ∃F,F=fitL (((strL s).drop k).take m) (-9007199254740991) 9007199254740991:=⟨_,rfl⟩
 obtain⟨N,hN⟩: ∃N,N=numL (((strL s).drop k).take m):=⟨_,rfl⟩
 rw[←hF,←hN]at HV HWD
 clear hval hc hb hnb hx hix hX hbg hx6 hm hF hN
 go_enter Tryz.func128,Tryz.ntmps128
 go_wp2_with(first|(refine zaK rfl (some 4) rfl _ rfl _ zgt ?_;intro g w1 hg1 hb1 hgr1;have HB0:=Lib.hid hb1;have HG0:=Lib.hid hgr1;have HR1:=Lib.hid (Blk.grownN HW.out hgr1);have hgn:=Nat.lt_of_lt_of_le hrlt hg1;clear hb1 hgr1;try go_frame)|(go_at_call 129;(with_reducible refine(HBL.out _ HR1.out).mono ?_);rintro e w2 ⟨rfl,hg2,hr2⟩;have HG2:=Lib.hid ((HG0.out.but (some rb)).trans hg2);have HR2:=Lib.hid hr2;have HB2:=Lib.hid (Blk.grown HB0.out hg2 (by intro e;injection e with e;omega));obtain⟨⟨c0,c1,c2⟩,f0,f1,f2⟩:=Rdr.cells hr2;clear hg2 hr2)|(go_at_call 160;(with_reducible refine(HAH.out _ HR2.out).mono ?_);rintro e w' ⟨rfl,q,rfl⟩)|(go_at_call 161;(with_reducible refine(HIX.out _).mono ?_);rintro e w' ⟨rfl,rfl⟩))
 refine(HWD.out _ (zdx (Rdr.counts (HR2.out.drewN q) _) (by omega))).mono ?_
 rintro e w5 (⟨ht,rfl,hg5⟩|⟨ht,hf,rfl,hg5⟩|⟨ht,hf,rfl,hg5,hr5⟩)
 ·have HV2:Hid (r=(zeroJ,k+1,left-1,50)):=Lib.hid (HV.out.trans (if_pos ht))
  have HG5:=Lib.hid hg5
  clear ht hg5
  go_wp2
  exact⟨rfl,ValPost.bad HV2.out (by decide) ⟨rfl,(HG2.out.trans (zag w2 q rb 2 (.int .i64 (256-left+1)))).trans HG5.out⟩⟩
 ·have HV2:Hid (r=(zeroJ,k,left-1,41)):=Lib.hid (HV.out.trans ((if_neg ht).trans (if_neg (by rw[hf];decide))))
  have HG5:=Lib.hid hg5
  clear ht hf hg5
  go_wp2
  exact⟨rfl,ValPost.bad HV2.out (by decide) ⟨rfl,(HG2.out.trans (zag w2 q rb 2 (.int .i64 (256-left+1)))).trans HG5.out⟩⟩
 ·have HV2:Hid (r=(.mk 2 N ⟨#[]⟩ [] [],zaW (strL s) (k+m),left-1,0)):=Lib.hid (HV.out.trans ((if_neg ht).trans (if_pos hf)))
  have hq:k+m≤s.size:=by omega
  have HG5:=Lib.hid ((HG2.out.trans (zag w2 q rb 2 (.int .i64 (256-left+1)))).trans hg5)
  have HR5:=Lib.hid hr5
  have HB5:=Lib.hid (Blk.grown (Blk.grown HB2.out (zag w2 q rb 2 (.int .i64 (256-left+1))) (by intro e;injection e with e;omega)) hg5 (by intro e;injection e with e;omega))
  clear ht hf hg5 hr5
  go_wp2_with fail
  refine(int_any N _).mono ?_
  rintro e w6 ⟨rfl,hb6⟩
  have HB6:=Lib.hid hb6
  clear hb6
  have hb6:=Blk.below HB5.out HB6.out HB5.out.lt
  obtain⟨b0,b1,b2,b3,b4⟩:w6.cell? ⟨g,0,none⟩=some (.int .i64 0)∧w6.cell? ⟨g,1,none⟩=some (.int .i64 0)∧w6.cell? ⟨g,2,none⟩=some (.string ⟨#[]⟩)∧w6.cell? ⟨g,3,none⟩=some (.slice none 0 0)∧w6.cell? ⟨g,4,none⟩=some (.slice none 0 0):=⟨hb6.cell 0,hb6.cell 1,hb6.cell 2,hb6.cell 3,hb6.cell 4⟩
  obtain⟨z0,z1,z2,z3,z4⟩:w6.frozen? ⟨g,0,none⟩=false∧w6.frozen? ⟨g,1,none⟩=false∧w6.frozen? ⟨g,2,none⟩=false∧w6.frozen? ⟨g,3,none⟩=false∧w6.frozen? ⟨g,4,none⟩=false:=⟨hb6.frozen 0,hb6.frozen 1,hb6.frozen 2,hb6.frozen 3,hb6.frozen 4⟩
  have HF:=Lib.hid (zgi (r:=r) hg1 hrlt (HG5.out.trans (zaX HB6.out _)) (Blk.below HR5.out HB6.out HR5.out.lt) hb6 (RepS.plain _ _ 2 N ⟨#[]⟩ (by decide)) hq (HV2.out.trans (by rw[show 256-(256-(left-1))=left-1 by omega]<;>rfl)))
  clear hb6
  go_wp2
  refine bodyPost_ret (zbW Tryz.results128 _ _ g _ _ _ rfl HF.out.1 Tryz.underlying63 rfl zau) rfl HF.out.2
end Go.Proofs.YtceddodfddlncaaGreatDoor
