
import Derived.Test.YtceddodfddlncaaGreatDoorJb11
import Derived.Test.YtceddodfddlncaaGreatDoorJb14
set_option maxRecDepth 100000
set_option maxHeartbeats 16000000
set_option linter.all false
namespace Go.Proofs.YtceddodfddlncaaGreatDoor
open Go Go.RowKit
theorem zmf (s:ByteArray) (i:Nat):0≤ahL (strL s) i∧ahL (strL s) i≤255:=by
 have:=atL_bd s i
 unfold ahL;split<;>omega
theorem idx_blank256: ∀n:Fin 256,decide (0≤Lib.indexByte [9,10,13,32] n.val.toUInt8)=isB (n.val:Int):=by decide+kernel
theorem idx_blank {c:Int} (h0:0≤c) (h1:c≤255):0≤Lib.indexByte [9,10,13,32] c.toNat.toUInt8↔isB c=true:=by
 obtain⟨n,rfl⟩:=Int.eq_ofNat_of_zero_le h0
 have:=idx_blank256 ⟨n,by omega⟩
 rw[Int.toNat_natCast,←this,decide_eq_true_eq]
theorem isB_ah (l:List Int) (i:Nat):isB (ahL l i)=isB (atL l i):=by
 unfold ahL;split
 ·rename_i h;rw[h];decide
 ·rfl
def znQ (w:World) (rb:Nat):Nat:=match w.cell? ⟨rb,1,none⟩with
 |some (.int _ k)=>k.toNat
 |_=>0
theorem zde {w:World} {rb:Nat} {s:ByteArray} {i:Nat} {n:Int} (h:Rdr w rb s i n):znQ w rb=i:=by
 unfold znQ;rw[h.cell 1];simp
theorem isB_lt {l:List Int} {i:Nat} (h:isB (atL l i)=true):i<l.length:=zbZ (by intro e;rw[e]at h;revert h;decide)
theorem zbg (rb:Nat) (s:ByteArray) (i:Nat) (n:Int) (w:World) (h:Rdr w rb s i n) (hi:i≤s.size) (hs:s.size≤1000000):
  Calls Tryz.prog 129 #[.pointer (some ⟨rb,0,none⟩)] w fun e w'=>e= .returned (.tuple #[])∧zcg w w' rb s (zaW (strL s) i:Nat) n:=by
 have HLEN:=Lib.hid (zaQ s)
 have HW:=Lib.hid h
 clear h
 go_enter Tryz.func129,Tryz.ntmps129
 go_wp2
 go_loopw[] (fun wr=> ∃k:Nat,k≤s.size∧zaW (strL s) i=zaW (strL s) k∧w.grownBy wr (some rb)∧Rdr wr rb s k n) (fun wr=>s.size-znQ wr rb)
 case atStart=>exact⟨i,hi,rfl,zaY _ _,HW.out⟩
 case round=>
  obtain⟨k,hk,hrun,hgr,hr⟩:=hrel
  have HRUN:=Lib.hid hrun
  have HGR:=Lib.hid hgr
  have HR:=Lib.hid hr
  have HA:=Lib.hid (zbi rb s k n wr hr hk hs)
  have hpos:=zde hr
  have HPOS:=Lib.hid hpos
  obtain⟨⟨c0,c1,c2⟩,f0,f1,f2⟩:=Rdr.cells hr
  obtain⟨b0,b1⟩:=zmf s k
  have hib:=isB_ah (strL s) k
  obtain⟨x,hx⟩: ∃x,x=ahL (strL s) k:=⟨_,rfl⟩
  rw[←hx]at HA b0 b1 hib
  have hidx:=idx_blank b0 b1
  obtain⟨X,hX⟩: ∃X,X=Lib.indexByte [9,10,13,32] x.toNat.toUInt8:=⟨_,rfl⟩
  have HIB:=Lib.hid (fun W:World=>Tryz.strings_IndexByte ⟨#[9,10,13,32]⟩ x W)
  rw[show(⟨#[9,10,13,32]⟩:ByteArray).data.toList=[9,10,13,32]from rfl,←hX]at HIB
  rw[←hX]at hidx
  clear hrun hgr hr hpos hx hX
  by_cases hb:isB (atL (strL s) k)=true
  ·have hge:0≤X:=hidx.2 (hib.trans hb)
   have hlt:=isB_lt hb
   rw[HLEN.out]at hlt
   have HST:=Lib.hid (HRUN.out.trans (zjg hb))
   clear hidx hib hb
   go_wp2_with(first|(go_at_call 160;(with_reducible refine HA.out.mono ?_);rintro e w' ⟨rfl,q,rfl⟩)|(go_at_call 161;(with_reducible refine(HIB.out _).mono ?_);rintro e w' ⟨rfl,rfl⟩))
   go_roundw
   case rel=>exact⟨k+1,by omega,HST.out,HGR.out.trans (zag wr q rb 1 _),Rdr.goes (HR.out.drewN q) _⟩
   case measure=>
    have h1:=zde (i:=k+1) (Rdr.goes (HR.out.drewN q) ((k+1:Nat):Int))
    have e:((k+1:Nat):Int)=(k:Int)+1:=by omega
    rw[e]at h1
    rw[h1,HPOS.out];omega
  ·have hge: ¬0≤X:=fun h=>hb (hib.symm.trans (hidx.1 h))
   have HST:Hid (zaW (strL s) i=k):=Lib.hid (HRUN.out.trans (zbu hb))
   clear hidx hib hb
   go_wp2_with(first|(go_at_call 160;(with_reducible refine HA.out.mono ?_);rintro e w' ⟨rfl,q,rfl⟩)|(go_at_call 161;(with_reducible refine(HIB.out _).mono ?_);rintro e w' ⟨rfl,rfl⟩))
   go_end0
   rw[HST.out]
   exact⟨rfl,HGR.out.trans (zbe q _),HR.out.drewN q⟩
theorem zmh (rb:Nat) (s x:ByteArray) (i:Nat) (n:Int) (w:World) (h:Rdr w rb s i n) (hi:i≤s.size) (hs:s.size≤1000000) (hx:x.size≤300) (hx0: ∀k,(hk:k<x.size)→0<(x[k].toNat:Int)):
  Calls Tryz.prog 162 #[.pointer (some ⟨rb,0,none⟩),.string x] w fun e w'=>
   ((zci (strL s) i (strL x)).2=0∧e= .returned (.tuple #[])∧zcg w w' rb s ((zci (strL s) i (strL x)).1:Nat) n)∨
   ((zci (strL s) i (strL x)).2≠0∧ziJ w rb ((zci (strL s) i (strL x)).1:Nat) (zci (strL s) i (strL x)).2 e w'):=by
 have HLEN:=Lib.hid (zaQ s)
 have HLX:=Lib.hid (zaQ x)
 have HW:=Lib.hid h
 obtain⟨R,hR⟩: ∃R,R=zci (strL s) i (strL x):=⟨_,rfl⟩
 rw[←hR]
 have HR0:Hid (R=zci (strL s) (i+0) ((strL x).drop 0)):=Lib.hid hR
 have HX0:=Lib.hid hx0
 clear h hR hx0
 go_enter Tryz.func162,Tryz.ntmps162
 go_wp2
 go_loopw[7] (fun v wr=> ∃k:Nat,k≤x.size∧i+k≤s.size∧v= .int .i64 (k:Int)∧R=zci (strL s) (i+k) ((strL x).drop k)∧w.grownBy wr (some rb)∧Rdr wr rb s (i+k:Nat) n) (fun v _=>x.size-(intOf v).toNat)
 case atStart=>exact⟨0,Nat.zero_le _,hi,rfl,HR0.out,zaY _ _,HW.out⟩
 case round=>
  obtain⟨k,hk,hik,rfl,hrun,hgr,hr⟩:=hrel
  have HRUN:=Lib.hid hrun
  have HGR:=Lib.hid hgr
  have HR:=Lib.hid hr
  clear hrun hgr hr
  by_cases hlt:k<x.size
  ·have hg:=zbp x k hlt
   have hx1:=HX0.out k hlt
   have hd:=wordL_drop (l:=strL s) (x:=strL x) (i:=i+k) (k:=k) (by rw[HLX.out];exact hlt)
   rw[hg]at hd
   by_cases hc:atL (strL s) (i+k)=(x[k].toNat:Int)
   ·rw[if_pos hc]at hd
    have hl2:i+k<s.size:=by rw[←HLEN.out];exact zbZ (by omega)
    have HST:=Lib.hid (HRUN.out.trans hd)
    have HS:=Lib.hid (zfy rb s (i+k) n _ wr HR.out hs hx1 hc)
    have h2:(k:Int)<(x.size:Int):=by omega
    clear hg hx1 hd hc
    go_wp2_with(go_at_call 188;(with_reducible refine HS.out.mono ?_);rintro e w2 ⟨rfl,hgr,hr⟩;have HG2:=Lib.hid hgr;have HR2:=Lib.hid hr;clear hgr hr)
    go_roundw
    case rel=>exact⟨k+1,by omega,by omega,by go_num,HST.out,HGR.out.trans HG2.out,HR2.out⟩
    case measure=>simp[intOf];omega
   ·rw[if_neg hc]at hd
    have HST:Hid (R=(i+k,50)):=Lib.hid (HRUN.out.trans hd)
    have HS:=Lib.hid (zji rb s (i+k) n _ wr HR.out hik hs hx1 hc)
    have h2:(k:Int)<(x.size:Int):=by omega
    clear hg hx1 hd hc
    go_wp2_with(go_at_call 188;(with_reducible refine HS.out.mono ?_);rintro e w2 ⟨rfl,hgr⟩;have HG2:=Lib.hid hgr;clear hgr)
    rw[HST.out]
    exact⟨rfl,.inr ⟨show(50:Int)≠0 by decide,rfl,HGR.out.trans HG2.out⟩⟩
  ·obtain rfl:k=x.size:=by omega
   have HST:Hid (R=(i+x.size,0)):=Lib.hid (by rw[HRUN.out,List.drop_of_length_le (by rw[HLX.out];exact Nat.le_refl _)];rfl)
   go_wp2
   go_end0
   rw[HST.out]
   exact .inl ⟨rfl,rfl,HGR.out,HR.out⟩
theorem ldL_step {l:List Int} {k i:Nat} {n:Int} (h: ¬hexD (atL l i)<0):ldL l (k+1) i n=((ldL l k (i+1) (16*n+hexD (atL l i))).1,(ldL l k (i+1) (16*n+hexD (atL l i))).2+1):=by rw[ldL,if_neg h]
theorem ldL_stop {l:List Int} {k i:Nat} {n:Int} (h:k=0∨hexD (atL l i)<0):ldL l k i n=(n,0):=by
 cases k with
 |zero=>rfl
 |succ k=>rw[ldL,if_pos (by omega)]
theorem ldL_bd4 (l:List Int) (j:Nat) (n:Int) (hn0:0≤n) (hnj:n<16^j) (hj:j≤4):n≤65535:=by
 have:j=0∨j=1∨j=2∨j=3∨j=4:=by omega
 rcases this with rfl|rfl|rfl|rfl|rfl<;>omega
theorem pow_step {n:Int} {j:Nat} {d:Int} (h0:0≤n) (h:n<16^j) (hd:d≤15):16*n+d<16^(j+1):=by
 rw[Int.pow_succ];omega
theorem leadCode_any (s:ByteArray) (w:World) (hs:s.size≤1000000):
  Calls Tryz.prog 216 #[.string s] w fun e w'=>e= .returned (.tuple #[.int .i64 (ldL (strL s) 4 0 0).1,.int .i64 ((ldL (strL s) 4 0 0).2:Int)])∧w=w':=by
 have HLEN:=Lib.hid (zaQ s)
 go_enter Tryz.func216,Tryz.ntmps216
 go_wp2
 go_loop [2,3] (fun u v=> ∃(j:Nat) (n:Int),j≤4∧j≤s.size∧u= .int .i64 n∧v= .int .i64 (j:Int)∧0≤n∧n<16^j∧(ldL (strL s) 4 0 0).1=(ldL (strL s) (4-j) j n).1∧(ldL (strL s) 4 0 0).2=j+(ldL (strL s) (4-j) j n).2) (fun _ v=>4-(intOf v).toNat)
 case atStart=>exact⟨0,0,by omega,by omega,rfl,rfl,by omega,by decide,rfl,by simp⟩
 case round=>
  obtain⟨j,n,hj,hjs,rfl,rfl,hn0,hnj,h1,h2⟩:=hrel
  have H1:=Lib.hid h1
  have H2:=Lib.hid h2
  have HNJ:=Lib.hid hnj
  have hn4:=ldL_bd4 (strL s) j n hn0 hnj hj
  clear h1 h2 hnj
  by_cases hlt:j<4∧j<s.size
  ·obtain⟨hl4,hls⟩:=hlt
   have hm:(j:Int)<min 4 (s.size:Int):=by omega
   have hg:=atL_get s j hls
   have hb:=atL_bd s j
   have hd:=hexD_bd (atL (strL s) j)
   have HC:=Lib.hid (fun W:World=>hexWorth_any (s[j].toNat:Int) W (by omega) (by omega))
   rw[←hg]at HC
   have hi1:(j:Int)<(s.size:Int):=by omega
   have hi0:(0:Int)≤(j:Int):=by omega
   have HG:=Lib.hid hg
   by_cases hx:hexD (atL (strL s) j)<0
   ·have hst:=ldL_stop (l:=strL s) (k:=4-j) (n:=n) (.inr hx)
    have HR1:Hid ((ldL (strL s) 4 0 0).1=n):=Lib.hid (by rw[H1.out,hst])
    have HR2:Hid ((ldL (strL s) 4 0 0).2=j):=Lib.hid (by rw[H2.out,hst];rfl)
    have hdd:hexD (atL (strL s) j)= -1:=by omega
    rw[hdd,hg]at HC
    clear hst hx hdd hd hb hg
    go_wp2_with(go_at_call 224;(with_reducible refine(HC.out _).mono ?_);rintro e w' ⟨rfl,rfl⟩)
    go_ret2
    rw[HR1.out,HR2.out]
    exact⟨rfl,rfl⟩
   ·have hst:=ldL_step (l:=strL s) (k:=4-(j+1)) (i:=j) (n:=n) hx
    rw[show 4-(j+1)+1=4-j by omega]at hst
    have HR1:Hid ((ldL (strL s) 4 0 0).1=(ldL (strL s) (4-(j+1)) (j+1) (16*n+hexD (atL (strL s) j))).1):=Lib.hid (by rw[H1.out,hst])
    have HR2:Hid ((ldL (strL s) 4 0 0).2=j+1+(ldL (strL s) (4-(j+1)) (j+1) (16*n+hexD (atL (strL s) j))).2):=Lib.hid (by rw[H2.out,hst];simp;omega)
    obtain⟨d,hdd⟩: ∃d,d=hexD (atL (strL s) j):=⟨_,rfl⟩
    rw[←hdd]at HC hd HR1 HR2 hx
    rw[hg]at HC
    have hne:(d != -1)=true:=by simp;omega
    have hd0:0≤d:=by omega
    have hd1:d≤15:=by omega
    have HP:=Lib.hid (pow_step hn0 HNJ.out hd1)
    clear hst hx hdd hd hb hg
    go_wp2_with(go_at_call 224;(with_reducible refine(HC.out _).mono ?_);rintro e w' ⟨rfl,rfl⟩)
    go_round
    case rel=>exact⟨j+1,16*n+d,by omega,by omega,(by rw[Int.mul_comm]),by go_num,by omega,HP.out,HR1.out,HR2.out⟩
    case measure=>simp[intOf];omega
  ·have hm: ¬(j:Int)<min 4 (s.size:Int):=by omega
   have hst:ldL (strL s) (4-j) j n=(n,0):=ldL_stop (by
    rcases Nat.lt_or_ge j 4 with h|h
    ·right
     rw[atL_end s j (by omega)];decide
    ·left;omega)
   have HR1:Hid ((ldL (strL s) 4 0 0).1=n):=Lib.hid (by rw[H1.out,hst])
   have HR2:Hid ((ldL (strL s) 4 0 0).2=j):=Lib.hid (by rw[H2.out,hst];rfl)
   have hmd:decide ((j:Int)<min 4 (s.size:Int))=false:=decide_eq_false hm
   clear hst hlt
   go_wp2
   go_ret2
   rw[HR1.out,HR2.out]
   exact⟨rfl,rfl⟩
theorem goesOn_any (rb:Nat) (s:ByteArray) (i:Nat) (n:Int) (c:Int) (w:World) (h:Rdr w rb s i n) (hi:i≤s.size) (hs:s.size≤1000000) (hc0:0<c) (hc:c≠44):
  Calls Tryz.prog 206 #[.pointer (some ⟨rb,0,none⟩),.int .u8 c] w fun e w'=>
   (atL (strL s) (zaW (strL s) i)=44∧e= .returned (.bool true)∧zcg w w' rb s (zaW (strL s) i+1:Nat) n)∨
   (atL (strL s) (zaW (strL s) i)=c∧e= .returned (.bool false)∧zcg w w' rb s (zaW (strL s) i+1:Nat) n)∨
   (atL (strL s) (zaW (strL s) i)≠44∧atL (strL s) (zaW (strL s) i)≠c∧ziJ w rb (zaW (strL s) i:Nat) 50 e w'):=by
 have HB:=Lib.hid (zbg rb s i n w h hi hs)
 have hsk:=zgz _ (strL s) i (Nat.le_refl _) (by rw[zaQ];exact hi)
 rw[zaQ]at hsk
 obtain⟨k,hk⟩: ∃k,k=zaW (strL s) i:=⟨_,rfl⟩
 rw[←hk]at HB hsk⊢
 have hk2:=hsk.2
 have HA:=Lib.hid (fun(W:World) (hr:Rdr W rb s k n)=>zbi rb s k n W hr hk2 hs)
 clear hk hsk h
 by_cases h44:atL (strL s) k=44
 ·rw[(zff (by decide)).2 h44]at HA
  have H44:=Lib.hid h44
  clear h44
  go_enter Tryz.func206,Tryz.ntmps206
  go_wp2_with(first|(go_at_call 129;(with_reducible refine HB.out.mono ?_);rintro e w1 ⟨rfl,hg1,hr1⟩;have HG1:=Lib.hid hg1;have HR1:=Lib.hid hr1;obtain⟨⟨c0,c1,c2⟩,f0,f1,f2⟩:=Rdr.cells hr1;clear hg1 hr1)|(go_at_call 160;(with_reducible refine(HA.out _ HR1.out).mono ?_);rintro e w' ⟨rfl,q,rfl⟩))
  go_ret
  refine .inl ⟨H44.out,rfl,HG1.out.trans (zag _ q rb 1 _),?_⟩
  exact Rdr.goes (HR1.out.drewN q) _
 ·have hne:=zme (l:=strL s) (i:=k) (c:=44) (by decide) h44
  have n44:(ahL (strL s) k==44)=false:=by rw[beq_eq_false_iff_ne];exact hne
  have H44:=Lib.hid h44
  obtain⟨x,hx⟩: ∃x,x=ahL (strL s) k:=⟨_,rfl⟩
  rw[←hx]at HA n44
  clear hne hx h44
  by_cases hcc:atL (strL s) k=c
  ·have HS:=Lib.hid (fun(W:World) (hr:Rdr W rb s k n)=>zfy rb s k n c W hr hs hc0 hcc)
   have HCC:=Lib.hid hcc
   clear hcc
   go_enter Tryz.func206,Tryz.ntmps206
   go_wp2_with(first|(go_at_call 129;(with_reducible refine HB.out.mono ?_);rintro e w1 ⟨rfl,hg1,hr1⟩;have HG1:=Lib.hid hg1;have HR1:=Lib.hid hr1;clear hg1 hr1)|(go_at_call 160;(with_reducible refine(HA.out _ HR1.out).mono ?_);rintro e w' ⟨rfl,q,rfl⟩)|(go_at_call 188;(with_reducible refine(HS.out _ (HR1.out.drewN q)).mono ?_);rintro e w2 ⟨rfl,hg2,hr2⟩;have HG2:=Lib.hid hg2;have HR2:=Lib.hid hr2;clear hg2 hr2))
   go_ret
   exact .inr (.inl ⟨HCC.out,rfl,(HG1.out.trans (zbe q _)).trans HG2.out,HR2.out⟩)
  ·have HS:=Lib.hid (fun(W:World) (hr:Rdr W rb s k n)=>zji rb s k n c W hr hk2 hs hc0 hcc)
   have HCC:=Lib.hid hcc
   clear hcc
   go_enter Tryz.func206,Tryz.ntmps206
   go_wp2_with(first|(go_at_call 129;(with_reducible refine HB.out.mono ?_);rintro e w1 ⟨rfl,hg1,hr1⟩;have HG1:=Lib.hid hg1;have HR1:=Lib.hid hr1;clear hg1 hr1)|(go_at_call 160;(with_reducible refine(HA.out _ HR1.out).mono ?_);rintro e w' ⟨rfl,q,rfl⟩)|(go_at_call 188;(with_reducible refine(HS.out _ (HR1.out.drewN q)).mono ?_);rintro e w2 ⟨rfl,hg2⟩;have HG2:=Lib.hid hg2;clear hg2))
   exact⟨rfl,.inr (.inr ⟨H44.out,HCC.out,rfl,(HG1.out.trans (zbe q _)).trans HG2.out⟩)⟩
end Go.Proofs.YtceddodfddlncaaGreatDoor
