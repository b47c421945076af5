
import Derived.Lib.SplitLaws
import Derived.Test.YtceddodfddlncaaGreatDoorJb09
import Derived.Test.YtceddodfddlncaaGreatDoorJb11
import Derived.Test.YtceddodfddlncaaGreatDoorJb12
set_option maxRecDepth 100000
set_option maxHeartbeats 16000000
set_option linter.all false
namespace Go.Proofs.YtceddodfddlncaaGreatDoor
open Go Go.RowKit
def LiesT (w:World) (b o:Nat) (ts:List ByteArray):Prop:= ∀i t,ts[i]? =some t→w.cell? ⟨b,o+i,none⟩=some (.string t)
theorem strL_mk (l:List UInt8):strL ⟨l.toArray⟩=l.map fun b=>(b.toNat:Int):=by simp[strL]
theorem join_two_dot (a b:ByteArray):strL ⟨(Lib.join ([a,b].map (·.data.toList)) [46]).toArray⟩=strL a++46::strL b:=by
 rw[strL_mk]
 simp only[List.map_cons,List.map_nil,Lib.join_cons,Lib.joinTail]
 simp[strL]
theorem zkK (a b:ByteArray) (bk o c:Nat) (w:World) (hl:LiesT w bk o [a,b]) (hb:bk<w.heap.size) (hc:2≤c) (hs:a.size+b.size≤100000000):
  Calls Tryz.prog 50 #[.slice (some ⟨bk,o,none⟩) 2 c] w fun e w'=> ∃t,strL t=strL a++46::strL b∧e= .returned (.string t)∧Below w.heap.size w w':=by
 have hj:=join_two_dot a b
 have hlen:(Lib.join ([a,b].map (·.data.toList)) (⟨#[46]⟩:ByteArray).data.toList).length≤140737488355328:=by
  have:=congrArg List.length hj
  rw[zaQ,List.length_append,List.length_cons,zaQ,zaQ]at this
  have e:(⟨(Lib.join ([a,b].map (·.data.toList)) [46]).toArray⟩:ByteArray).size=(Lib.join ([a,b].map (·.data.toList)) [46]).length:=by simp[ByteArray.size]
  show(Lib.join _ [46]).length≤_
  omega
 have HJ:=Lib.hid (Tryz.strings_Join bk o c [a,b] ⟨#[46]⟩ w hl hb (by show 2≤_;omega) hc hlen)
 obtain⟨t,ht⟩: ∃t:ByteArray,t=⟨(Lib.join ([a,b].map (·.data.toList)) [46]).toArray⟩:=⟨_,rfl⟩
 have HT:Hid (strL t=strL a++46::strL b):=Lib.hid (by rw[ht,hj])
 replace HJ:Hid (Calls Tryz.prog 77 #[.slice (some ⟨bk,o,none⟩) 2 c,.string ⟨#[46]⟩] w fun e w'=>e= .returned (.string t)∧Below w.heap.size w w'):=Lib.hid (by
  refine HJ.out.mono ?_
  rintro e w' ⟨rfl,hb⟩
  exact⟨by rw[ht],hb⟩)
 clear hl hb hs hj hlen ht
 go_enter Tryz.func50,Tryz.ntmps50
 go_wp2_with fail
 refine HJ.out.mono ?_
 rintro e w1 ⟨rfl,hb⟩
 have HB:=Lib.hid hb
 clear hb
 go_wp2
 go_ret
 exact⟨_,HT.out,rfl,HB.out⟩
theorem zht (s:ByteArray) (w:World) (h:s.size≤281474976710656):Calls Tryz.prog 38 #[.string s] w fun e w'=>e= .returned (.string s)∧Below w.heap.size w w':=by
 have HC:=Lib.hid (Tryz.stringslite_Clone s w h)
 go_enter Tryz.func38,Tryz.ntmps38
 go_wp2_with fail
 refine HC.out.mono ?_
 rintro e w1 ⟨rfl,hb⟩
 have HB:=Lib.hid hb
 clear hb
 go_wp2
 go_ret
 exact⟨rfl,HB.out⟩
def MaxLW (w:World):Prop:= ∃m:Int,w.cell? ⟨1,0,none⟩=some (.int .i64 m)
theorem MaxLW.below {w w':World} (h:MaxLW w) (hb:Below w.heap.size w w'):MaxLW w':=by
 obtain⟨m,hm⟩:=h
 exact⟨m,(hb.cell (zaa hm)).trans hm⟩
theorem splitD_any (s:ByteArray) (w:World) (hM:MaxLW w) (hs:s.size≤1000000):
  Calls Tryz.prog 62 #[.string s,.string ⟨#[46]⟩] w fun e w'=> ∃PS:List ByteArray,PS.map strL=zdX (strL s)∧e= .returned (.slice (some ⟨w.heap.size,0,none⟩) PS.length PS.length)∧LiesT w' w.heap.size 0 PS∧w.heap.size<w'.heap.size∧Below w.heap.size w w':=by
 obtain⟨m,hm⟩:=hM
 refine(Tryz.strings_Split s ⟨#[46]⟩ m w (by omega) hm (by decide)).mono ?_
 rintro e w' ⟨rfl,rfl⟩
 refine⟨Lib.splitB ⟨#[46]⟩ 0 (Lib.countB s ⟨#[46]⟩) s,split_dots s ⟨#[46]⟩ rfl,?_,fun i t hi=> ?_,by simp,zad _ _⟩
 ·rw[Lib.splitB_all _ (by decide) 0 _ s rfl]
 ·rw[Nat.zero_add,World.cell?_alloc_new]
  simp[hi]
theorem strL_toU {l:List Int} (h:Bytes l):strL ⟨(toU l).toArray⟩=l:=by
 simp only[strL,toU,List.map_map]
 conv=>rhs;rw[←List.map_id l]
 refine List.map_congr_left fun x hx=> ?_
 exact zmi (h.mem hx)
theorem zkx {l:List Int} (h:Bytes l):Lib.byteCells (toU l)=ints .u8 l:=by
 simp only[Lib.byteCells,toU,List.map_map,ints]
 refine List.map_congr_left fun x hx=> ?_
 simp only[Function.comp]
 rw[zmi (h.mem hx)]
theorem ptrInfo:(Tryz.prog.info? 120).map (·.size)=some 2:=by kernel_rfl
theorem zkw (b:Nat) (w:World) (h0:w.cell? ⟨b,0,none⟩=some (.pointer (some ⟨b,0,none⟩))):
  Calls Tryz.prog 110 #[.pointer (some ⟨b,0,none⟩)] w fun e w'=>e= .returned (.tuple #[])∧w=w':=by
 obtain⟨j,hj,_⟩:=Option.map_eq_some_iff.1 ptrInfo
 have hne:=Lib.run_neq_ptr_same (P:=Tryz.prog) w ⟨b,0,none⟩ Tryz.underlying118 hj
 go_enter Tryz.func110,Tryz.ntmps110
 go_wp2
 go_end0
 exact⟨rfl,rfl⟩
abbrev Bld (B b:Nat) (bs:List Value) (w:World):Prop:=Lib.BuilderAt 120 5 B b (.pointer (some ⟨b,0,none⟩)) bs w
theorem write_bld (B b:Nat) (bs:List Value) (ad:Addr) (n c:Nat) (xs:List Int) (w:World) (h:Bld B b bs w) (hn:xs.length=n) (hlen:bs.length+n≤1073741824) (hBw:B≤w.heap.size)
  (hc: ∀(j:Nat) (u:Value),(ints .u8 xs)[j]? =some u→w.cell? (ad.add j)=some u):
  Calls Tryz.prog 81 #[.pointer (some ⟨b,0,none⟩),.slice (some ad) n c] w fun e w'=>e= .returned (.tuple #[.int .i64 (n:Int),.nilIface])∧Bld B b (bs++ints .u8 xs) w'∧Below B w w':=by
 obtain⟨i0,hi0,hz0,hz1,hz2⟩:=info_parts info5b
 have HCell:=Lib.hid hc
 have HN:=Lib.hid hn
 have H:=Lib.hid h
 obtain⟨hB,v,hbk,hown,hne⟩:=h
 have c0:w.cell? ⟨b,0,none⟩=some (.pointer (some ⟨b,0,none⟩)):=by rw[Lib.cell_of_heap hbk];rfl
 have c1:w.cell? ⟨b,1,none⟩=some v:=by rw[Lib.cell_of_heap hbk];rfl
 have HOW:=Lib.hid hown
 have HBK:=Lib.hid hbk
 have HNE:=Lib.hid hne
 have HC0:=Lib.hid (zkw b w c0)
 obtain⟨m,hm⟩: ∃m,m=bs.length:=⟨_,rfl⟩
 rw[←hm]at HOW hlen
 have HM:=Lib.hid hm
 clear hm hc hn hown hbk hne c0
 go_enter Tryz.func81,Tryz.ntmps81
 go_wp2_with(first
  |(go_at_call 110;refine HC0.out.mono ?_;rintro e w' ⟨rfl,rfl⟩)
  |(at_builtin;refine wpList_append_own _ rfl (.tmp 12) (.tmp 13) 46 rfl B 5 i0 (.int .u8 0) 1 1 Tryz.underlying46 hi0 hz0 hz1 hz2 rfl (by decide) v m bs rfl HOW.out ad n c (ints .u8 xs) rfl ?c1 HCell.out (zal _ _) ?c3 ?c4 hBw ?_))
 case c1=>rw[length_ints,HN.out,Nat.mul_one]
 case c3=>unfold maxLen;omega
 case c4=>omega
 intro v' w2 hown' hgr _
 have hlt:b<w.heap.size:=Lib.BuilderAt.lt H.out
 have hb2:w2.heap[b]? =some (.cells #[.pointer (some ⟨b,0,none⟩),v] 120 (0,0)):=by
  rw[hgr.block b hlt (fun e=>HNE.out e.symm)]
  exact HBK.out
 have d1:w2.cell? ⟨b,1,none⟩=some v:=by rw[Lib.cell_of_heap hb2];rfl
 have f1:w2.frozen? ⟨b,1,none⟩=false:=Lib.frozen_of_heap hb2 1
 have HR:Hid (Bld B b (bs++ints .u8 xs) (w2.setCell ⟨b,1,none⟩ v')∧Below B w (w2.setCell ⟨b,1,none⟩ v')):=Lib.hid ⟨
  Lib.BuilderAt.put hB hb2 (bs':=bs++ints .u8 xs) (by rw[List.length_append,length_ints,HN.out,←HM.out];exact hown') (by decide),
  ((Below.refl B w).grown hgr hBw (zdf HOW.out)).setCell (p:=⟨b,1,none⟩) hB _⟩
 obtain⟨ao,n',cap,rfl⟩: ∃ao n' cap,v'= .slice ao n' cap:=by
  rcases hown'.2 with⟨hv,_⟩|⟨g,cap,cur,hv,_⟩
  ·exact⟨_,_,_,hv⟩
  ·exact⟨_,_,_,hv⟩
 clear hown' hgr hb2
 go_wp2
 go_ret2
 exact⟨rfl,HR.out.1,HR.out.2⟩
theorem bld_below {B b:Nat} {bs:List Value} {w w':World} (h:Bld B b bs w) (hb:Below w.heap.size w w'):Bld B b bs w':=by
 have hlt:=Lib.BuilderAt.lt h
 obtain⟨hB,v,hbk,hown,hne⟩:=h
 exact⟨hB,v,(hb.block b hlt).trans hbk,hown.kept (row:=none) (zaX hb none) (Classical.em _),hne⟩
theorem spell_enc: ∀(xs:List Int),xs.length≤3→Bytes xs→(zfi (zfp xs)).take ((8*xs.length+5)/6)=encL xs
 |[],_,_=>rfl
 |[a],_,h=>by
  have ha:=h.mem (x:=a) (by simp)
  simp only[zfp,zfi,encL,List.length_cons,List.length_nil]
  rw[show a*65536/262144%64=a/4 by omega,show a*65536/4096%64=a%4*16 by omega]
  rfl
 |[a,b],_,h=>by
  have ha:=h.mem (x:=a) (by simp)
  have hb:=h.mem (x:=b) (by simp)
  simp only[zfp,zfi,encL,List.length_cons,List.length_nil]
  rw[show(a*65536+b*256)/262144%64=a/4 by omega,show(a*65536+b*256)/4096%64=a%4*16+b/16 by omega,show(a*65536+b*256)/64%64=b%16*4 by omega]
  rfl
 |[a,b,c],_,h=>by
  have ha:=h.mem (x:=a) (by simp)
  have hb:=h.mem (x:=b) (by simp)
  have hc:=h.mem (x:=c) (by simp)
  simp only[zfp,zfi,encL,List.length_cons,List.length_nil]
  rw[show(a*65536+b*256+c)/262144%64=a/4 by omega,show(a*65536+b*256+c)/4096%64=a%4*16+b/16 by omega,show(a*65536+b*256+c)/64%64=b%16*4+c/64 by omega,show(a*65536+b*256+c)%64=c%64 by omega]
  rfl
 |_::_::_::_::_,h,_=>by simp at h
theorem z4:(Tryz.prog.info? 122).map (·.zero)=some (some (.agg (ints .u8 [0,0,0,0]).toArray)):=by kernel_rfl
theorem s4:(Tryz.prog.info? 122).map (·.size)=some 4:=by kernel_rfl
theorem s1u8:(Tryz.prog.info? 5).map (·.size)=some 1:=by kernel_rfl
theorem zes {l:List Int} (h:Bytes l):Bytes (encL l):= .of_mem fun c hc=>by
 obtain⟨n,h0,h1,rfl⟩:=zgW l (fun x hx=>h.mem hx) c hc
 have:=sg_bd n ⟨h0,h1⟩
 omega
theorem znb (x:Int):(zfi x).length=4:=rfl
theorem zhz (A:Option Addr) (xs:List Int) (n c:Nat) (w:World) (hn:xs.length=n) (hn2:n≤1000000) (hx:Bytes xs) (hl:Lies w A xs) (hcap:n≤c):
  Calls Tryz.prog 51 #[.slice A n c] w fun e w'=>e= .returned (.string ⟨(toU (encL xs)).toArray⟩)∧Below w.heap.size w w':=by
 have hgrow:=Tryz.Builder_Grow_fresh w.heap.size w.heap.size (n/3*4+4) (w.alloc (.cells #[.pointer none,.slice none 0 0] 120)) (Nat.le_refl _) (heap_alloc_new w _) (by simp) (by omega)
 rw[show((n/3*4+4:Nat):Int)=(n:Int)/3*4+4 from by omega]at hgrow
 have HGR:=Lib.hid hgrow
 have HN:=Lib.hid hn
 have HX:=Lib.hid hx
 have HL:=Lib.hid hl
 have hwhole:=fun(g:Nat) (W:World)=>zbQ (P:=Tryz.prog) 122 5 4 Tryz.underlying122 s1u8 g 0 (by decide) W
 clear hgrow hn hx hl
 go_enter Tryz.func51,Tryz.ntmps51
 go_wp2_with(go_at_call 78;refine HGR.out.mono ?_;rintro e w1 ⟨rfl,hbld,hbel⟩;have HS:=Lib.hid (show Bld w.heap.size w.heap.size [] w1∧Below w.heap.size w w1 from⟨hbld,(zad w _).trans hbel⟩);clear hbld hbel HGR)
 go_loopw[0] (fun v wr=> ∃(k:Nat) (A':Option Addr),3*k≤n∧v= .slice A' (n-3*k) (c-3*k)∧Lies w A' (xs.drop (3*k))∧Bld w.heap.size w.heap.size (ints .u8 (encL (xs.take (3*k)))) wr∧Below w.heap.size w wr) (fun v _=>match v with| .slice _ m _=>m|_=>0)
 case atStart=>exact⟨0,A,by omega,rfl,HL.out,HS.out.1,HS.out.2⟩
 case round=>
  clear HS
  obtain⟨k,A',hk,rfl,hlie,hbld,hbel⟩:=hrel
  have HLI:=Lib.hid hlie
  have HBD:=Lib.hid hbld
  have HBE:=Lib.hid hbel
  clear hlie hbld hbel
  obtain⟨m,hm⟩: ∃m,m=n-3*k:=⟨_,rfl⟩
  obtain⟨d,hd⟩: ∃d,d=c-3*k:=⟨_,rfl⟩
  have HM:Hid (m=n-3*k):=Lib.hid hm
  have HD:Hid (d=c-3*k):=Lib.hid hd
  rw[←hm,←hd]
  have hmn:m≤1000000:=by omega
  have hmd:m≤d:=by omega
  clear hm hd
  have hsz:w.heap.size≤wr.heap.size:=HBE.out.size
  have hrl:(xs.drop (3*k)).length=m:=by rw[List.length_drop,HN.out,HM.out]
  have hrb:Bytes (xs.drop (3*k)):=HX.out.drop _
  have hel:(encL (xs.take (3*k))).length≤2000000:=by rw[zbd,List.length_take,HN.out];omega
  by_cases hlt:3≤m
  ·have hge:(3:Int)≤(m:Int):=by omega
   obtain⟨b,o,rfl,_,_⟩:=HLI.out.at (by rw[hrl];omega)
   have HL2:Hid (Lies w (if d=3 then some ⟨b,o,none⟩else some ⟨b,o+3,none⟩) (xs.drop (3*(k+1)))):=Lib.hid (by
    by_cases h3:d=3
    ·have:xs.drop (3*(k+1))=[]:=List.drop_eq_nil_of_le (by rw[HN.out];have:=HM.out;omega)
     rw[this];exact fun h=>absurd h (by simp)
    ·rw[if_neg h3]
     have:=Lies.of (Src.drop HLI.out 3)
     rw[List.drop_drop,Option.map_some,Addr.add_mid]at this
     rwa [show 3*(k+1)=3*k+3 by omega])
   have h3l:((xs.drop (3*k)).take 3).length=3:=by rw[List.length_take,hrl];omega
   have hjb:=joinB_bd (hrb.take 3)
   have HJ:=Lib.hid (fun(W:World) (hb:Below w.heap.size w W)=>zhg _ ((xs.drop (3*k)).take 3) 3 d W h3l (by omega) (hrb.take 3) ((HLI.out.take 3).below hb))
   have HEN:Hid (encL (xs.take (3*(k+1)))=encL (xs.take (3*k))++zfi (zfp ((xs.drop (3*k)).take 3))):=Lib.hid (by
    have h1:=spell_enc _ (by rw[h3l];exact Nat.le_refl _) (hrb.take 3)
    rw[h3l,List.take_of_length_le (by rw[znb];decide)]at h1
    rw[h1,←zgr _ _ (by rw[List.length_take,HN.out];have:=HM.out;omega)]
    congr 1
    rw[show 3*(k+1)=3*k+3 by omega,List.take_add])
   obtain⟨x,hxx⟩: ∃x,x=zfp ((xs.drop (3*k)).take 3):=⟨_,rfl⟩
   rw[←hxx]at hjb HJ HEN
   obtain⟨x0,x1⟩:=hjb
   have HSP:=Lib.hid (fun(W:World)=>zie x W x0 x1)
   obtain⟨L,hL⟩: ∃L,L=zfi x:=⟨_,rfl⟩
   have hL4:L.length=4:=by rw[hL];rfl
   rw[←hL]at HEN HSP
   have HL4:=Lib.hid hL4
   clear h3l hxx hL hL4 hrl hrb
   go_wp2_with(first
    |(go_at_call 80;refine(HJ.out _ HBE.out).mono ?_;rintro e w' ⟨rfl,rfl⟩)
    |(go_at_call 79;refine(HSP.out _).mono ?_;rintro e w2 ⟨rfl,hb2⟩;have HB2:=Lib.hid hb2;clear hb2)
    |(refine zaK rfl (some 4) rfl _ rfl _ z4 ?_;intro g w3 hg hbg hgr;have HB3:=Lib.hid (HB2.out.grown hgr HB2.out.size (by simp));have hg2:wr.heap.size≤g:=Nat.le_trans HB2.out.size hg;clear hgr;try go_frame)
    |(refine zac rfl none rfl _ (.tmp 4) (.tmp 20) rfl g 0 (ints .u8 L) rfl rfl _ _ hbg (by simp[HL4.out]) (by rw[s4,length_ints,HL4.out]) (zal _ _) ?_;intro w4 hbg4 hgr;rw[zah _ _ (by simp[HL4.out])]at hbg4;have HB4:=Lib.hid (HB3.out.grown hgr HB3.out.size (by intro k hk;injection hk with hk;omega));have HG4:=Lib.hid hbg4;clear hgr hbg hbg4;try go_frame))
   refine(write_bld w.heap.size w.heap.size (ints .u8 (encL (xs.take (3*k)))) ⟨g,0,none⟩ 4 4 L w4 (bld_below HBD.out HB4.out) HL4.out (by rw[length_ints];omega) (Nat.le_trans hsz HB4.out.size) (fun j u hu=>by rw[Addr.add_mid,Nat.zero_add,HG4.out.cell];exact hu)).mono ?_
   rintro e w5 ⟨rfl,hbld5,hbel5⟩
   have HF:Hid (Bld w.heap.size w.heap.size (ints .u8 (encL (xs.take (3*(k+1))))) w5∧Below w.heap.size w w5):=Lib.hid ⟨by rw[HEN.out,zbK];exact hbld5,(HBE.out.trans (HB4.out.mono hsz)).trans hbel5⟩
   clear hbld5 hbel5
   go_wp2_with fail
   go_roundw
   case rel=>exact⟨k+1,_,by have:=HM.out;omega,by rw[show n-3*(k+1)=m-3 by have:=HM.out;omega,show c-3*(k+1)=d-3 by have:=HD.out;omega],HL2.out,HF.out.1,HF.out.2⟩
   case measure=>simp;omega
  ·have hge: ¬(3:Int)≤(m:Int):=by omega
   have hjb:=joinB_bd hrb
   have HJ:=Lib.hid (zhg A' (xs.drop (3*k)) m d wr hrl (by omega) hrb (HLI.out.below HBE.out))
   have HEN:Hid (encL xs=encL (xs.take (3*k))++(zfi (zfp (xs.drop (3*k)))).take ((8*m+5)/6)):=Lib.hid (by
    have h1:=spell_enc _ (by rw[hrl];omega) hrb
    rw[hrl]at h1
    rw[h1,←zgr _ _ (by rw[List.length_take,HN.out];omega),List.take_append_drop])
   obtain⟨x,hxx⟩: ∃x,x=zfp (xs.drop (3*k)):=⟨_,rfl⟩
   rw[←hxx]at hjb HJ HEN
   obtain⟨x0,x1⟩:=hjb
   have HSP:=Lib.hid (fun(W:World)=>zie x W x0 x1)
   have HSF:=Lib.hid (fun(W:World)=>signsFor_any m W (by omega))
   obtain⟨L,hL⟩: ∃L,L=zfi x:=⟨_,rfl⟩
   have hL4:L.length=4:=by rw[hL];rfl
   rw[←hL]at HEN HSP
   have HL4:=Lib.hid hL4
   obtain⟨q,hq⟩: ∃q,q=(8*m+5)/6:=⟨_,rfl⟩
   have hq4:q≤4:=by omega
   rw[←hq]at HSF HEN
   have hto:=fun(g:Nat) (W:World)=>zeg (P:=Tryz.prog) 122 5 4 Tryz.underlying122 s1u8 g 0 q (by decide) hq4 .i64 W
   have hLq:(L.take q).length=q:=by rw[List.length_take,hL4];omega
   have HLQ:=Lib.hid hLq
   clear hxx hL hL4 hrl hrb hq hLq
   go_wp2_with(first
    |(go_at_call 80;refine HJ.out.mono ?_;rintro e w' ⟨rfl,rfl⟩)
    |(go_at_call 79;refine(HSP.out _).mono ?_;rintro e w2 ⟨rfl,hb2⟩;have HB2:=Lib.hid hb2;clear hb2)
    |(go_at_call 82;refine(HSF.out _).mono ?_;rintro e w' ⟨rfl,rfl⟩)
    |(refine zaK rfl (some 5) rfl _ rfl _ z4 ?_;intro g w3 hg hbg hgr;have HB3:=Lib.hid (HB2.out.grown hgr HB2.out.size (by simp));have hg2:wr.heap.size≤g:=Nat.le_trans HB2.out.size hg;clear hgr;try go_frame)
    |(refine zac rfl none rfl _ (.tmp 5) (.tmp 25) rfl g 0 (ints .u8 L) rfl rfl _ _ hbg (by simp[HL4.out]) (by rw[s4,length_ints,HL4.out]) (zal _ _) ?_;intro w4 hbg4 hgr;rw[zah _ _ (by simp[HL4.out])]at hbg4;have HB4:=Lib.hid (HB3.out.grown hgr HB3.out.size (by intro k hk;injection hk with hk;omega));have HG4:=Lib.hid hbg4;clear hgr hbg hbg4;try go_frame))
   refine(write_bld w.heap.size w.heap.size (ints .u8 (encL (xs.take (3*k)))) ⟨g,0,none⟩ q 4 (L.take q) w4 (bld_below HBD.out HB4.out) HLQ.out (by rw[length_ints];omega) (Nat.le_trans hsz HB4.out.size) (fun j u hu=>by
    rw[Addr.add_mid,Nat.zero_add,HG4.out.cell]
    have hj:=(List.getElem?_eq_some_iff.1 hu).1
    rw[length_ints,HLQ.out]at hj
    rw[ints,List.map_take,List.getElem?_take,if_pos hj]at hu
    exact hu)).mono ?_
   rintro e w5 ⟨rfl,hbld5,hbel5⟩
   have HF:Hid (Lib.IsBuilder 120 5 w.heap.size w.heap.size (Lib.byteCells (toU (encL xs))) w5∧Below w.heap.size w w5):=Lib.hid ⟨.inr (by rw[zkx (zes HX.out),HEN.out,zbK];exact hbld5),(HBE.out.trans (HB4.out.mono hsz)).trans hbel5⟩
   clear hbld5 hbel5
   go_wp2_with(go_at_call 83;refine(Tryz.Builder_String_any w.heap.size w.heap.size (toU (encL xs)) w5 HF.out.1 HF.out.2.size).mono ?_;rintro e w6 ⟨rfl,hb6⟩;have HB6:=Lib.hid hb6;clear hb6)
   go_ret
   exact⟨rfl,HF.out.2.trans HB6.out⟩
theorem lies_two (w:World) (a b:ByteArray) (t:TypeId):LiesT (w.alloc (.cells #[.string a,.string b] t)) w.heap.size 0 [a,b]:=fun i x hi=>by
 match i,hi with
 |0,hi=>injection hi with hi;subst hi;simp
 |1,hi=>injection hi with hi;subst hi;simp
theorem sign_of (kid sec kind payload:ByteArray) (H:List Int) (w:World) (hH:Bytes H) (hHl:H.length≤1000) (hs:sec.size≤1000) (hp:payload.size≤100000) (ht:Tabs w)
  (hh: ∀W,Below w.heap.size w W→Calls Tryz.prog 52 #[.agg #[.string kid,.string sec],.string kind] W fun e w'=>e= .returned (.string (toS H))∧Below W.heap.size W w'):
  Calls Tryz.prog 23 #[.agg #[.string kid,.string sec],.string kind,.string payload] w fun e w'=> ∃t,strL t=(encL H++46::encL (strL payload))++46::encL (macL (strL sec) (encL H++46::encL (strL payload)))∧e= .returned (.string t)∧Below w.heap.size w w':=by
 have HHD:=Lib.hid hh
 obtain⟨h,hh1⟩: ∃h,h=toS H:=⟨_,rfl⟩
 have hsl:strL h=H:=by rw[hh1,zcb hH]
 have hsz:h.size≤1000:=by rw[hh1,zcm];exact hHl
 rw[←hh1]at HHD
 have HEN1:=Lib.hid (fun(W:World) (A:Option Addr) (c:Nat) (hl:Lies W A (strL h)) (hc:h.size≤c)=>zhz A (strL h) h.size c W (zaQ h) (by omega) (zaz h) hl hc)
 have HEN2:=Lib.hid (fun(W:World) (A:Option Addr) (c:Nat) (hl:Lies W A (strL payload)) (hc:payload.size≤c)=>zhz A (strL payload) payload.size c W (zaQ payload) (by omega) (zaz payload) hl hc)
 obtain⟨e1,he1⟩: ∃e:ByteArray,e=⟨(toU (encL (strL h))).toArray⟩:=⟨_,rfl⟩
 obtain⟨e2,he2⟩: ∃e:ByteArray,e=⟨(toU (encL (strL payload))).toArray⟩:=⟨_,rfl⟩
 have s1:strL e1=encL H:=by rw[he1,←hsl];exact zcb (zes (zaz h))
 have s2:strL e2=encL (strL payload):=by rw[he2];exact zcb (zes (zaz payload))
 have z1:e1.size≤3000:=by rw[←zaQ,s1,zbd];omega
 have z2:e2.size≤300000:=by rw[←zaQ,s2,zbd,zaQ];omega
 rw[←he1]at HEN1
 rw[←he2]at HEN2
 rw[←s1,←s2]
 have HJ1:=Lib.hid (fun(W:World) (b c:Nat) (hl:LiesT W b 0 [e1,e2]) (hb:b<W.heap.size) (hc:2≤c)=>zkK e1 e2 b 0 c W hl hb hc (by omega))
 have HB0:=Lib.hid (zad w (.cells #[.string kid,.string sec] 41))
 have HTAB:=Lib.hid ht
 have hsw:=fun(g:Nat)=>zbQ (P:=Tryz.prog) 82 5 32 Tryz.underlying82 s5 g 0 (by omega)
 have x0: ∀W,Below (w.alloc (.cells #[.string kid,.string sec] 41)).heap.size (w.alloc (.cells #[.string kid,.string sec] 41)) W→W.cell? ⟨w.heap.size,0,none⟩=some (.string kid)∧W.cell? ⟨w.heap.size,1,none⟩=some (.string sec):=fun W hb=>⟨(hb.cell (p:=⟨w.heap.size,0,none⟩) (by simp)).trans (by simp),(hb.cell (p:=⟨w.heap.size,1,none⟩) (by simp)).trans (by simp)⟩
 have HX:=Lib.hid x0
 clear hh hh1 hsl he1 he2 ht x0 s1 s2
 go_enter Tryz.func23,Tryz.ntmps23
 go_wp2_with(first
  |(go_at_call 52;(with_reducible refine(HHD.out _ HB0.out).mono ?_);rintro e w1 ⟨rfl,hb⟩;have HC1:=Lib.hid hb;clear hb)
  |(refine zbj rfl (some 12) rfl _ _ 5 (.tmp 11) rfl h rfl Tryz.underlying9 Tryz.underlying46 Tryz.underlying5 ?_;intro A1 c1 w2 hl1 hc1 hb;have HC2:=Lib.hid (HC1.out.trans (hb.mono HC1.out.size));have HL1:=Lib.hid hl1;clear hb hl1;try go_frame)
  |(go_at_call 51;(with_reducible refine(HEN1.out _ _ _ HL1.out hc1).mono ?_);rintro e w3 ⟨rfl,hb⟩;have HC3:=Lib.hid (HC2.out.trans (hb.mono HC2.out.size));clear hb HEN1)
  |(refine zbj rfl (some 15) rfl _ _ 5 (.tmp 14) rfl payload rfl Tryz.underlying9 Tryz.underlying46 Tryz.underlying5 ?_;intro A2 c2 w4 hl2 hc2 hb;have HC4:=Lib.hid (HC3.out.trans (hb.mono HC3.out.size));have HL2:=Lib.hid hl2;clear hb hl2;try go_frame)
  |(go_at_call 51;(with_reducible refine(HEN2.out _ _ _ HL2.out hc2).mono ?_);rintro e w5 ⟨rfl,hb⟩;have HC5:=Lib.hid (HC4.out.trans (hb.mono HC4.out.size));clear hb HEN2)
  |(go_at_call 50;(with_reducible refine(HJ1.out _ _ _ (lies_two w5 e1 e2 _) (by simp) (Nat.le_refl _)).mono ?_);rintro e w6 ⟨bd,hbd,rfl,hb⟩;have HBD:=Lib.hid hbd;have HC6:=Lib.hid (HC5.out.trans (((zad w5 _).trans (hb.mono (zad w5 _).size)).mono HC5.out.size));have x0:=(HX.out _ HC6.out).1;have x1:=(HX.out _ HC6.out).2;have HC6':Hid (Below w.heap.size w w6):=Lib.hid (HB0.out.trans (HC6.out.mono HB0.out.size));clear hb HJ1 hbd)
  |(go_at_call 53;fail))
 have zb:bd.size≤400000:=by have:=congrArg List.length HBD.out;rw[zaQ,List.length_append,List.length_cons,zaQ,zaQ]at this;omega
 have HTG:=Lib.hid (tag_any kid sec bd w6 (by omega) (by omega) (HTAB.out.below HC6'.out))
 have HDL:Hid ((macL (strL sec) (strL bd)).length=32∧Bytes (macL (strL sec) (strL bd))):=Lib.hid ⟨zap _,zbv _⟩
 obtain⟨D,hD⟩: ∃D,D=macL (strL sec) (strL bd):=⟨_,rfl⟩
 rw[←hD]at HTG HDL
 have HDE:=Lib.hid (fun _:Unit=>hD)
 have HEN3:=Lib.hid (fun(W:World) (g:Nat) (hl:Lies W (some ⟨g,0,none⟩) D)=>zhz (some ⟨g,0,none⟩) D 32 32 W HDL.out.1 (by omega) HDL.out.2 hl (Nat.le_refl _))
 obtain⟨e3,he3⟩: ∃e:ByteArray,e=⟨(toU (encL D)).toArray⟩:=⟨_,rfl⟩
 have s3:strL e3=encL D:=by rw[he3];exact zcb (zes HDL.out.2)
 have z3:e3.size≤100:=by rw[←zaQ,s3,zbd,HDL.out.1];omega
 rw[←he3]at HEN3
 have HS3:=Lib.hid s3
 have HJ2:=Lib.hid (fun(W:World) (b c:Nat) (hl:LiesT W b 0 [bd,e3]) (hb:b<W.heap.size) (hc:2≤c)=>zkK bd e3 b 0 c W hl hb hc (by omega))
 clear hD he3 s3
 go_wp2_with(first
  |(go_at_call 53;(with_reducible refine HTG.out.mono ?_);rintro e w7 ⟨rfl,hb⟩;have HC7:=Lib.hid (HC6'.out.trans (hb.mono HC6'.out.size));clear hb HTG)
  |(refine zaK rfl (some 8) rfl _ rfl _ z24 ?_;intro g8 w8 hg8 hb8 hgr;have HC8:=Lib.hid (HC7.out.grown hgr HC7.out.size (by simp));have h8B:w.heap.size≤g8:=Nat.le_trans HC7.out.size hg8;clear hgr;try go_frame)
  |(refine zac rfl none rfl _ (.tmp 8) (.tmp 21) rfl g8 0 (ints .u8 D) rfl rfl _ _ hb8 (by simp[HDL.out.1]) (by rw[s24,length_ints,HDL.out.1]) (zal _ _) ?_;intro w9 hb9 hgr;rw[zah _ _ (by simp[HDL.out.1])]at hb9;have HC9:=Lib.hid (HC8.out.grown hgr HC8.out.size (by intro k hk;injection hk with hk;omega));clear hgr hb8;try go_frame)
  |(go_at_call 51;(with_reducible refine(HEN3.out _ _ (Lies.whole hb9)).mono ?_);rintro e w10 ⟨rfl,hb⟩;have HC10:=Lib.hid (HC9.out.trans (hb.mono HC9.out.size));clear hb HEN3)
  |(go_at_call 50;(with_reducible refine(HJ2.out _ _ _ (lies_two w10 bd e3 _) (by simp) (Nat.le_refl _)).mono ?_);rintro e w11 ⟨tx,htx,rfl,hb⟩;have HTX:=Lib.hid htx;have HC11:=Lib.hid (HC10.out.trans (((zad w10 _).trans (hb.mono (zad w10 _).size)).mono HC10.out.size));clear hb HJ2 htx))
 go_ret
 exact⟨_,by rw[HTX.out,HS3.out,HDE.out (),HBD.out],rfl,HC11.out⟩
theorem equalK_any (W:World) (k k':List ByteArray) (v v':Value) (h:RepK W k v) (h':RepK W k' v'):
  Calls Tryz.prog 99 #[v,v'] W fun e w'=>e= .returned (.bool (decide (k=k')))∧Below W.heap.size W w':=by
 obtain⟨A,c,rfl,hl,hc⟩:=h
 obtain⟨A',c',rfl,hl',hc'⟩:=h'
 by_cases hne:k.length=k'.length
 ·by_cases h0:k=[]
  ·subst h0
   have h0':k'=[]:=List.eq_nil_of_length_eq_zero hne.symm
   subst h0'
   refine(Tryz.slices_Equal_string_empty A A' c 0 c' W (by omega)).mono ?_
   rintro e w' ⟨rfl,rfl⟩
   exact⟨rfl,Below.refl _ _⟩
  ·have h0':k'≠[]:=fun e=>h0 (List.eq_nil_of_length_eq_zero (by rw[hne,e];rfl))
   obtain⟨b,o,rfl,hlt,hcs⟩:=hc h0
   obtain⟨b',o',rfl,hlt',hcs'⟩:=hc' h0'
   refine(Tryz.slices_Equal_string b o k.length c b' o' k'.length c' k k' W (Nat.le_refl _) (Nat.le_refl _) (by omega) (by omega) (fun j hj=> ?_) (fun j hj=> ?_)).mono ?_
   ·obtain⟨u,h1,_,h3⟩:=hcs j hj
    rw[h3,List.getD_eq_getElem?_getD,h1];rfl
   ·obtain⟨u,h1,_,h3⟩:=hcs' j hj
    rw[h3,List.getD_eq_getElem?_getD,h1];rfl
   ·rintro e w' ⟨rfl,q,rfl⟩
    rw[List.take_length,List.take_length]
    exact⟨rfl,zaw (Below.refl _ _) _⟩
 ·refine(Tryz.slices_Equal_string_lens A A' k.length c k'.length c' W hne).mono ?_
  rintro e w' ⟨rfl,rfl⟩
  rw[decide_eq_false (fun e=>hne (by rw[e]))]
  exact⟨rfl,Below.refl _ _⟩
theorem zbw {w w':World} {p:Addr} {v:Value} (h:w.cell? p=some v) (hg:w.grownBy w' none):w'.cell? p=some v:=(World.cell?_of_block (hg.block p.block (zaa h) (by simp))).trans h
def znz (x:J):Prop:= ∀(b:J) (va vb:Value) (W:World),RepJ W x va→RepJ W b vb→Calls Tryz.prog 67 #[va,vb] W fun e w'=>e= .returned (.bool (zhZ x b))∧Below W.heap.size W w'
theorem RepJ.cells {W:World} {j:J} {v:Value} {b o:Nat} (h:RepJ W j v) (hf:Five W b o v): ∃A x3 c K x4 d,v= .agg #[.int .i64 j.kind,.int .i64 j.n,.string j.s,.slice A x3 c,.slice K x4 d]∧W.cell? ⟨b,o,none⟩=some (.int .i64 j.kind)∧W.cell? ⟨b,o+1,none⟩=some (.int .i64 j.n)∧W.cell? ⟨b,o+2,none⟩=some (.string j.s)∧W.cell? ⟨b,o+3,none⟩=some (.slice A x3 c)∧W.cell? ⟨b,o+4,none⟩=some (.slice K x4 d):=by
 obtain⟨vk,A,c,rfl,_,hk,_,_⟩:=h.open
 obtain⟨K,d,rfl,_,_⟩:=hk.open
 obtain⟨a0,a1,a2,a3,a4,e,h0,h1,h2,h3,h4⟩:=hf
 simp only[Value.agg.injEq,Array.mk.injEq,List.cons.injEq,and_true]at e
 obtain⟨rfl,rfl,rfl,rfl,rfl⟩:=e
 exact⟨A,_,c,K,_,d,rfl,h0,h1,h2,h3,h4⟩
theorem zno (l m:List J) (ih: ∀x∈l,znz x) (A A':Option Addr) (c c':Nat) (W:World) (hl:l.length≤9223372036854775807) (hm:m.length≤9223372036854775807)
  (hc:l≠[]→ ∃b o,A=some ⟨b,o,none⟩∧b<W.heap.size∧RepC W b o l) (hc':m≠[]→ ∃b o,A'=some ⟨b,o,none⟩∧b<W.heap.size∧RepC W b o m):
  Calls Tryz.prog 100 #[.slice A l.length c,.slice A' m.length c',.func (.func 67) #[] #[]] W fun e w'=>e= .returned (.bool (zdw l m))∧Below W.heap.size W w':=by
 have HSAME:Hid (zdw l m=true↔l.length=m.length∧ ∀i (h1:i<l.length) (h2:i<m.length),zhZ l[i] m[i]=true):=Lib.hid zlc
 have HC:=Lib.hid hc
 have HC':=Lib.hid hc'
 have HIH:=Lib.hid ih
 obtain⟨p,hp⟩: ∃k,k=l.length:=⟨_,rfl⟩
 obtain⟨q,hq⟩: ∃k,k=m.length:=⟨_,rfl⟩
 rw[←hp]at hl⊢
 rw[←hq]at hm⊢
 have HP:=Lib.hid hp
 have HQ:=Lib.hid hq
 clear hc hc' ih hp hq
 by_cases hpq:p=q
 ·subst hpq
  have hE:((p:Int)!=(p:Int))=false:=by simp
  go_enter Tryz.func100,Tryz.ntmps100
  go_wp2
  go_loopw[17] (fun i wr=> ∃j:Nat,j≤p∧i= .int .i64 (j:Int)∧(∀x (h1:x<l.length) (h2:x<m.length),x<j→zhZ l[x] m[x]=true)∧Below W.heap.size W wr) (fun i _=>p-(intOf i).toNat)
  case atStart=>exact⟨0,by omega,rfl,fun x _ _ hx=>absurd hx (Nat.not_lt_zero _),Below.refl _ _⟩
  case round=>
   obtain⟨j,hj,rfl,hall,hbel⟩:=hrel
   have HA:=Lib.hid hall
   have HBE:=Lib.hid hbel
   clear hall
   by_cases hlt:j<p
   ·have hj1:j<l.length:=by rw[←HP.out];exact hlt
    have hj2:j<m.length:=by rw[←HQ.out];exact hlt
    obtain⟨g,o,rfl,hg,hrep⟩:=HC.out (fun e=>by rw[e]at hj1;exact absurd hj1 (Nat.not_lt_zero _))
    obtain⟨g',o',rfl,hg',hrep'⟩:=HC'.out (fun e=>by rw[e]at hj2;exact absurd hj2 (Nat.not_lt_zero _))
    obtain⟨v1,hr1,hf1⟩:=hrep.at j hj1
    obtain⟨v2,hr2,hf2⟩:=hrep'.at j hj2
    have HCALL:=Lib.hid (fun(w':World) (hb:Below W.heap.size W w')=>HIH.out l[j] (List.getElem_mem hj1) m[j] v1 v2 w' (RepJ.below hb _ _ hr1) (RepJ.below hb _ _ hr2))
    obtain⟨A1,x3,c1,K1,x4,d1,rfl,z0,z1,z2,z3,z4⟩:=(RepJ.below hbel _ _ hr1).cells (hf1.below hg hbel)
    obtain⟨A2,y3,c2,K2,y4,d2,rfl,u0,u1,u2,u3,u4⟩:=(RepJ.below hbel _ _ hr2).cells (hf2.below hg' hbel)
    obtain⟨f,hff⟩: ∃f,f=zhZ l[j] m[j]:=⟨_,rfl⟩
    rw[←hff]at HCALL
    have HFF:=Lib.hid hff
    obtain⟨x0,hx0⟩: ∃x,x=l[j].kind:=⟨_,rfl⟩
    obtain⟨x1,hx1⟩: ∃x,x=l[j].n:=⟨_,rfl⟩
    obtain⟨x2,hx2⟩: ∃x,x=l[j].s:=⟨_,rfl⟩
    obtain⟨y0,hy0⟩: ∃x,x=m[j].kind:=⟨_,rfl⟩
    obtain⟨y1,hy1⟩: ∃x,x=m[j].n:=⟨_,rfl⟩
    obtain⟨y2,hy2⟩: ∃x,x=m[j].s:=⟨_,rfl⟩
    rw[←hx0,←hx1,←hx2,←hy0,←hy1,←hy2]at HCALL
    rw[←hx0]at z0
    rw[←hx1]at z1
    rw[←hx2]at z2
    rw[←hy0]at u0
    rw[←hy1]at u1
    rw[←hy2]at u2
    have hgA:=World.grownBy_alloc wr (.cells #[.int .i64 x0,.int .i64 x1,.string x2,.slice A1 x3 c1,.slice K1 x4 d1] 63) none
    have t0:(wr.alloc (.cells #[.int .i64 x0,.int .i64 x1,.string x2,.slice A1 x3 c1,.slice K1 x4 d1] 63)).cell? ⟨g',o'+j*5,none⟩=some (.int .i64 y0):=zbw u0 hgA
    have t1:(wr.alloc (.cells #[.int .i64 x0,.int .i64 x1,.string x2,.slice A1 x3 c1,.slice K1 x4 d1] 63)).cell? ⟨g',o'+j*5+1,none⟩=some (.int .i64 y1):=zbw u1 hgA
    have t2:(wr.alloc (.cells #[.int .i64 x0,.int .i64 x1,.string x2,.slice A1 x3 c1,.slice K1 x4 d1] 63)).cell? ⟨g',o'+j*5+2,none⟩=some (.string y2):=zbw u2 hgA
    have t3:(wr.alloc (.cells #[.int .i64 x0,.int .i64 x1,.string x2,.slice A1 x3 c1,.slice K1 x4 d1] 63)).cell? ⟨g',o'+j*5+3,none⟩=some (.slice A2 y3 c2):=zbw u3 hgA
    have t4:(wr.alloc (.cells #[.int .i64 x0,.int .i64 x1,.string x2,.slice A1 x3 c1,.slice K1 x4 d1] 63)).cell? ⟨g',o'+j*5+4,none⟩=some (.slice K2 y4 d2):=zbw u4 hgA
    have hB2:Below W.heap.size W ((wr.alloc (.cells #[.int .i64 x0,.int .i64 x1,.string x2,.slice A1 x3 c1,.slice K1 x4 d1] 63)).alloc (.cells #[.int .i64 y0,.int .i64 y1,.string y2,.slice A2 y3 c2,.slice K2 y4 d2] 63)):=(hbel.alloc hbel.size _).alloc (by have:=hbel.size;simp;omega) _
    have HB2:=Lib.hid hB2
    have w0:(0:Int)≤(j:Int):=by omega
    have w1:(j:Int)<(p:Int):=by omega
    clear hrep hrep' hr1 hr2 hf1 hf2 hff hx0 hx1 hx2 hy0 hy1 hy2 hB2 hbel hgA
    cases f with
    |true=>
     go_wp2_with(go_at_call 67;(with_reducible refine(HCALL.out _ HB2.out).mono ?_);rintro e w' ⟨rfl,hb⟩;have HB3:=Lib.hid (HB2.out.trans (hb.mono HB2.out.size));clear hb)
     go_roundw
     case rel=>exact⟨j+1,by omega,by go_num,fun x h1 h2 hx=>by
      rcases Nat.lt_or_ge x j with h|h
      ·exact HA.out x h1 h2 h
      ·obtain rfl:x=j:=by omega
       exact HFF.out.symm,HB3.out⟩
     case measure=>simp[intOf];omega
    |false=>
     have HR:Hid (zdw l m=false):=Lib.hid (by
      rw[←Bool.not_eq_true,HSAME.out]
      rintro⟨_,h⟩
      rw[h j hj1 hj2]at HFF
      exact absurd HFF.out (by decide))
     go_wp2_with(go_at_call 67;(with_reducible refine(HCALL.out _ HB2.out).mono ?_);rintro e w' ⟨rfl,hb⟩;have HB3:=Lib.hid (HB2.out.trans (hb.mono HB2.out.size));clear hb)
     go_ret
     rw[HR.out]
     exact⟨rfl,HB3.out⟩
   ·obtain rfl:j=p:=by omega
    have HR:Hid (zdw l m=true):=Lib.hid (by
     rw[HSAME.out]
     exact⟨by rw[←HP.out,←HQ.out],fun x h1 h2=>HA.out x h1 h2 (by rw[HP.out];exact h1)⟩)
    have hge: ¬(j:Int)<(j:Int):=by omega
    clear hlt hbel
    go_wp2
    go_ret
    rw[HR.out]
    exact⟨rfl,HBE.out⟩
 ·have hE:((p:Int)!=(q:Int))=true:=by rw[bne_iff_ne];omega
  have hE': ¬(p:Int)=(q:Int):=by omega
  have HR:Hid (zdw l m=false):=Lib.hid (by
   rw[←Bool.not_eq_true,HSAME.out]
   rintro⟨h,_⟩
   exact hpq (by rw[HP.out,HQ.out];exact h))
  go_enter Tryz.func100,Tryz.ntmps100
  go_wp2
  go_ret
  rw[HR.out]
  exact⟨rfl,Below.refl _ _⟩
theorem RepC.below {W W':World} (hb:Below W.heap.size W W') {b:Nat} (hlt:b<W.heap.size): ∀(l:List J) (o:Nat),RepC W b o l→RepC W' b o l
 |[],o,_=>by rw[RepC];trivial
 |x::r,o,h=>by
  rw[RepC]at h⊢
  obtain⟨⟨v,h1,h2⟩,h3⟩:=h
  exact⟨⟨v,RepJ.below hb _ _ h1,h2.below hlt hb⟩,RepC.below hb hlt r (o+5) h3⟩
theorem sameJ_of (a b:J):zhZ a b=(decide (a.kind=b.kind)&&decide (a.n=b.n)&&decide (a.s=b.s)&&decide (a.k=b.k)&&zdw a.l b.l):=by
 cases a;cases b;rfl
theorem same_of (a:J) (ih: ∀x∈a.l,znz x):znz a:=fun b va vb W ha hb=>by
 obtain⟨vk,A,c,rfl,_,hk,hl,hc⟩:=ha.open
 obtain⟨vk',A',c',rfl,_,hk',hl',hc'⟩:=hb.open
 have HEK:=Lib.hid (fun(w':World) (hw:Below W.heap.size W w')=>equalK_any w' a.k b.k vk vk' (hk.below hw) (hk'.below hw))
 have HEF:=Lib.hid (fun(w':World) (hw:Below W.heap.size W w')=>zno a.l b.l ih A A' c c' w' hl hl'
  (fun hne=>by obtain⟨g,o,e,hg,hr⟩:=hc hne;exact⟨g,o,e,Nat.lt_of_lt_of_le hg hw.size,RepC.below hw hg _ _ hr⟩)
  (fun hne=>by obtain⟨g,o,e,hg,hr⟩:=hc' hne;exact⟨g,o,e,Nat.lt_of_lt_of_le hg hw.size,RepC.below hw hg _ _ hr⟩))
 obtain⟨K,d,rfl,_,_⟩:=hk.open
 obtain⟨K',d',rfl,_,_⟩:=hk'.open
 have HS:=Lib.hid (sameJ_of a b)
 obtain⟨f,hf⟩: ∃f,f=zdw a.l b.l:=⟨_,rfl⟩
 obtain⟨g,hg⟩: ∃f,f=decide (a.k=b.k):=⟨_,rfl⟩
 rw[←hf]at HEF
 rw[←hg]at HEK
 rw[←hf,←hg]at HS
 obtain⟨x0,hx0⟩: ∃x,x=a.kind:=⟨_,rfl⟩
 obtain⟨x1,hx1⟩: ∃x,x=a.n:=⟨_,rfl⟩
 obtain⟨x2,hx2⟩: ∃x,x=a.s:=⟨_,rfl⟩
 obtain⟨x3,hx3⟩: ∃x,x=a.l.length:=⟨_,rfl⟩
 obtain⟨x4,hx4⟩: ∃x,x=a.k.length:=⟨_,rfl⟩
 obtain⟨y0,hy0⟩: ∃x,x=b.kind:=⟨_,rfl⟩
 obtain⟨y1,hy1⟩: ∃x,x=b.n:=⟨_,rfl⟩
 obtain⟨y2,hy2⟩: ∃x,x=b.s:=⟨_,rfl⟩
 obtain⟨y3,hy3⟩: ∃x,x=b.l.length:=⟨_,rfl⟩
 obtain⟨y4,hy4⟩: ∃x,x=b.k.length:=⟨_,rfl⟩
 rw[←hx3,←hy3]at HEF
 rw[←hx4,←hy4]at HEK
 rw[←hx0,←hx1,←hx2,←hy0,←hy1,←hy2]at HS
 rw[←hx0,←hx1,←hx2,←hx3,←hx4,←hy0,←hy1,←hy2,←hy3,←hy4]
 obtain⟨r,hr⟩: ∃r,r=zhZ a b:=⟨_,rfl⟩
 rw[←hr]at HS⊢
 obtain⟨W2,hW2⟩: ∃x,x=(W.alloc (.cells #[.int .i64 x0,.int .i64 x1,.string x2,.slice A x3 c,.slice K x4 d] 63)).alloc (.cells #[.int .i64 y0,.int .i64 y1,.string y2,.slice A' y3 c',.slice K' y4 d'] 63):=⟨_,rfl⟩
 have hB2:Below W.heap.size W W2:=by rw[hW2];exact((Below.refl _ _).alloc (Nat.le_refl _) _).alloc (by simp) _
 have HB2:=Lib.hid hB2
 have HW2:=Lib.hid hW2
 have c3:W2.cell? ⟨W.heap.size,3,none⟩=some (.slice A x3 c):=by rw[hW2];simp
 have d3:W2.cell? ⟨W.heap.size+1,3,none⟩=some (.slice A' y3 c'):=by rw[hW2];simp
 clear ha hb hk hk' hl hl' hc hc' hf hg hx0 hx1 hx2 hx3 hx4 hy0 hy1 hy2 hy3 hy4 hr hB2 hW2 ih
 by_cases h0:x0=y0
 ·subst h0
  have e0:(x0==x0)=true:=beq_self_eq_true _
  by_cases h1:x1=y1
  ·subst h1
   have e1:(x1==x1)=true:=beq_self_eq_true _
   by_cases h2:x2=y2
   ·subst h2
    have e2:(x2.toList==x2.toList)=true:=by simp
    cases g with
    |true=>
     have HR:Hid (r=f):=Lib.hid (by rw[HS.out];simp)
     clear HS
     go_enter Tryz.func67,Tryz.ntmps67
     go_wp2_with(first
      |(go_at_call 99;rw[show((W.alloc (.cells #[.int .i64 x0,.int .i64 x1,.string x2,.slice A x3 c,.slice K x4 d] 63)).alloc (.cells #[.int .i64 x0,.int .i64 x1,.string x2,.slice A' y3 c',.slice K' y4 d'] 63))=W2 from HW2.out.symm];(with_reducible refine(HEK.out _ HB2.out).mono ?_);rintro e w3 ⟨rfl,hb⟩;have HB3:=Lib.hid (HB2.out.trans (hb.mono HB2.out.size));have c3':=(hb.cell (p:=⟨W.heap.size,3,none⟩) (zaa c3)).trans c3;have d3':=(hb.cell (p:=⟨W.heap.size+1,3,none⟩) (zaa d3)).trans d3;clear hb c3 d3)
      |(go_at_call 100;(with_reducible refine(HEF.out _ HB3.out).mono ?_);rintro e w4 ⟨rfl,hb⟩;have HB4:=Lib.hid (HB3.out.trans (hb.mono HB3.out.size));clear hb))
     go_ret
     rw[HR.out]
     exact⟨rfl,HB4.out⟩
    |false=>
     have HR:Hid (r=false):=Lib.hid (by rw[HS.out];simp)
     clear HS c3 d3
     go_enter Tryz.func67,Tryz.ntmps67
     go_wp2_with(go_at_call 99;rw[show((W.alloc (.cells #[.int .i64 x0,.int .i64 x1,.string x2,.slice A x3 c,.slice K x4 d] 63)).alloc (.cells #[.int .i64 x0,.int .i64 x1,.string x2,.slice A' y3 c',.slice K' y4 d'] 63))=W2 from HW2.out.symm];(with_reducible refine(HEK.out _ HB2.out).mono ?_);rintro e w3 ⟨rfl,hb⟩;have HB3:=Lib.hid (HB2.out.trans (hb.mono HB2.out.size));clear hb)
     go_ret
     rw[HR.out]
     exact⟨rfl,HB3.out⟩
   ·have e2:(x2.toList==y2.toList)=false:=zmc h2
    have HR:Hid (r=false):=Lib.hid (by rw[HS.out,decide_eq_false h2];simp)
    clear HS h2 c3 d3
    go_enter Tryz.func67,Tryz.ntmps67
    go_wp2
    go_ret
    rw[HR.out,←HW2.out]
    exact⟨rfl,HB2.out⟩
  ·have e1:(x1==y1)=false:=by rw[beq_eq_false_iff_ne];exact h1
   have HR:Hid (r=false):=Lib.hid (by rw[HS.out,decide_eq_false h1];simp)
   clear HS c3 d3
   go_enter Tryz.func67,Tryz.ntmps67
   go_wp2
   go_ret
   rw[HR.out,←HW2.out]
   exact⟨rfl,HB2.out⟩
 ·have e0:(x0==y0)=false:=by rw[beq_eq_false_iff_ne];exact h0
  have HR:Hid (r=false):=Lib.hid (by rw[HS.out,decide_eq_false h0];simp)
  clear HS c3 d3
  go_enter Tryz.func67,Tryz.ntmps67
  go_wp2
  go_ret
  rw[HR.out,←HW2.out]
  exact⟨rfl,HB2.out⟩
theorem same_any (a:J):znz a:=by
 induction a using J.ind with
 |h kind n s l k ih=>exact same_of _ ih
def txt (s:ByteArray):ByteArray:=⟨(toU (encL (strL s))).toArray⟩
theorem zir (s:ByteArray):strL (txt s)=encL (strL s):=strL_toU (zes (zaz s))
theorem zmq (s:ByteArray):(txt s).size=(8*s.size+5)/6:=by rw[←zaQ,zir,zbd,zaQ]
theorem zga: ∀{l:List Int},Good l→Bytes (decL l)
 |[],_=> .of_mem (by simp[decL])
 |[_],_=> .of_mem (by simp[decL])
 |[a,b],h=> .of_mem fun x hx=>by
  have ga:=h 0 (by simp)
  have gb:=h 1 (by simp)
  simp only[List.getD_cons_zero,List.getD_cons_succ]at ga gb
  have:=zco a
  have:=zco b
  simp only[decL,List.mem_cons,List.not_mem_nil,or_false]at hx
  subst hx;omega
 |[a,b,c],h=> .of_mem fun x hx=>by
  have ga:=h 0 (by simp)
  have gb:=h 1 (by simp)
  have gc:=h 2 (by simp)
  simp only[List.getD_cons_zero,List.getD_cons_succ]at ga gb gc
  have:=zco a
  have:=zco b
  have:=zco c
  simp only[decL,List.mem_cons,List.not_mem_nil,or_false]at hx
  rcases hx with rfl|rfl<;>omega
 |a::b::c::d::r,h=> .of_mem fun x hx=>by
  have ga:=h 0 (by simp)
  have gb:=h 1 (by simp)
  have gc:=h 2 (by simp)
  have gd:=h 3 (by simp)
  simp only[List.getD_cons_zero,List.getD_cons_succ]at ga gb gc gd
  have:=zco a
  have:=zco b
  have:=zco c
  have:=zco d
  simp only[decL,List.mem_cons]at hx
  rcases hx with rfl|rfl|rfl|hx
  ·omega
  ·omega
  ·omega
  ·exact(zga fun k hk=>h (k+4) (by simp;omega)).mem hx
theorem refSign_any (n:Int) (w:World) (h0:0≤n) (h1:n<64):
  Calls Tryz.prog 71 #[.int .i64 n] w fun e w'=>e= .returned (.int .u8 (sg n))∧w=w':=by
 have hi:=zdu .i64 n h0 h1
 go_enter Tryz.func71,Tryz.ntmps71
 go_wp2
 go_ret
 exact⟨rfl,rfl⟩
theorem zfZ (s:ByteArray) (w:World) (hs:s.size≤20000):
  Calls Tryz.prog 44 #[.string s] w fun e w'=>e= .returned (.string (txt s))∧Below w.heap.size w w':=by
 obtain⟨i0,hi0,hz0,hz1,hz2⟩:=info_parts info5b
 have hown0:(w.alloc (.cells #[] 5)).ownsRow w.heap.size 5 1 (.slice (some ⟨w.heap.size,0,none⟩) 0 0) 0 []:=World.ownsRow_lit w #[] 0 (Nat.le_refl _) (by unfold maxLen;omega) rfl
 have HO0:=Lib.hid hown0
 clear hown0
 go_enter Tryz.func44,Tryz.ntmps44
 go_wp2
 go_loopw[3,4] (fun v i wr=> ∃j:Nat,6*j≤8*s.size+5∧i= .int .i64 ((6*j:Nat):Int)∧wr.ownsRow w.heap.size 5 1 v j (ints .u8 (refL (strL s) j))∧Below w.heap.size w wr) (fun _ i _=>8*s.size+6-(intOf i).toNat)
 case atStart=>exact⟨0,by omega,rfl,HO0.out,zad _ _⟩
 case round=>
  clear HO0
  obtain⟨j,hj,rfl,hown,hbel⟩:=hrel
  have HOW:=Lib.hid hown
  have HBE:=Lib.hid hbel
  clear hown hbel
  obtain⟨a,ha⟩: ∃a,a=6*j:=⟨_,rfl⟩
  have HA:=Lib.hid ha
  rw[←ha]at hj⊢
  clear ha
  have hjb:j≤40000:=by have:=HA.out;omega
  by_cases hlt:a<8*s.size
  ·have hltI:(a:Int)<8*(s.size:Int):=by omega
   go_wp2
   obtain⟨wo,hwo⟩: ∃wo:World,wo=wr:=⟨_,rfl⟩
   rw[←hwo]at HOW HBE⊢
   clear hwo
   go_loop [5,6] (fun n k=> ∃i:Nat,i≤6∧k= .int .i64 ((a+i:Nat):Int)∧n= .int .i64 (sixk (strL s) a i)) (fun _ k=>a+6-(intOf k).toNat)
   case atStart=>exact⟨0,by omega,rfl,rfl⟩
   case round=>
    obtain⟨i,hi,rfl,rfl⟩:=hrel
    have hsx:=sixk_bd (strL s) a i
    have hsx6:0≤sixk (strL s) a i∧sixk (strL s) a i<64:=by
     have:i=0∨i=1∨i=2∨i=3∨i=4∨i=5∨i=6:=by omega
     rcases this with rfl|rfl|rfl|rfl|rfl|rfl|rfl<;>constructor<;>omega
    obtain⟨x0,x1⟩:=hsx6
    clear hsx
    by_cases hi6:i<6
    ·have HS:Hid (sixk (strL s) a (i+1)=2*sixk (strL s) a i+zeY (strL s) (a+i)):=Lib.hid rfl
     obtain⟨k,hk⟩: ∃k,k=a+i:=⟨_,rfl⟩
     rw[←hk]at HS⊢
     have hk1:k<a+6:=by omega
     have HK:=Lib.hid hk
     obtain⟨x,hxx⟩: ∃x,x=sixk (strL s) a i:=⟨_,rfl⟩
     rw[←hxx]at x0 x1 HS⊢
     clear hk hxx
     by_cases hks:k<8*s.size
     ·have hk8:k/8<s.size:=by omega
      have hby:(s[k/8].toNat:Int)≤255:=by have:=s[k/8].toNat_lt;omega
      have hd0:0≤(s[k/8].toNat:Int)/2^(7-k%8):=Int.ediv_nonneg (by omega) (by exact Int.pow_nonneg (by decide))
      have hd1:(s[k/8].toNat:Int)/2^(7-k%8)≤255:=Int.le_trans (Int.ediv_le_self _ (by omega)) hby
      have HBT:Hid (zeY (strL s) k=(s[k/8].toNat:Int)/2^(7-k%8)%2):=Lib.hid (by rw[zeY,zbp s _ hk8])
      go_wp2
      go_round
      case rel=>
       refine⟨i+1,by omega,by rw[show a+(i+1)=k+1 by rw[HK.out];omega];go_num,by rw[HS.out,HBT.out]⟩
      case measure=>simp[intOf];omega
     ·have hb0:zeY (strL s) k=0:=by
       unfold zeY
       rw[List.getD_eq_getElem?_getD,List.getElem?_eq_none (by rw[zaQ];omega)]
       show 0/2^(7-k%8)%2=(0:Int)
       rw[Int.zero_ediv];rfl
      rw[hb0]at HS
      clear hb0
      go_wp2
      go_round
      case rel=>exact⟨i+1,by omega,by rw[show a+(i+1)=k+1 by rw[HK.out];omega];go_num,by rw[HS.out,Int.add_zero]⟩
      case measure=>simp[intOf];omega
    ·have hi66:i=6:=by omega
     subst hi66
     have HSN:=Lib.hid (refSign_any (sixk (strL s) a 6) wo x0 x1)
     have HNX:Hid (ints .u8 (refL (strL s) j)++[.int .u8 (sg (sixk (strL s) a 6))]=ints .u8 (refL (strL s) (j+1))):=Lib.hid (by rw[refL,zbK,HA.out];rfl)
     obtain⟨x,hxx⟩: ∃x,x=sixk (strL s) a 6:=⟨_,rfl⟩
     rw[←hxx]at x0 x1 HSN HNX⊢
     obtain⟨y,hy⟩: ∃y,y=sg x:=⟨_,rfl⟩
     rw[←hy]at HSN HNX
     clear hxx hy
     have hsz:w.heap.size≤wo.heap.size:=HBE.out.size
     go_wp2_with(first
      |(go_at_call 71;refine HSN.out.mono ?_;rintro e w' ⟨rfl,rfl⟩)
      |(at_builtin;refine wpList_append_own _ rfl (.tmp 43) (.tmp 46) 46 rfl w.heap.size 5 i0 (.int .u8 0) 1 1 Tryz.underlying46 hi0 hz0 hz1 hz2 rfl (by decide) _ j _ rfl (HOW.out.alloc _) ⟨wo.heap.size,0,none⟩ 1 1 [.int .u8 y] rfl rfl ?c1 ?c2 ?c3 ?c4 ?c5 ?_))
     case c1=>exact cell_one_new _ _ _
     case c2=>intro u hu;rw[List.mem_singleton.1 hu];rfl
     case c3=>unfold maxLen;omega
     case c4=>omega
     case c5=>simp;omega
     intro v' w' hown' hgr _
     have HW:Hid (w'.ownsRow w.heap.size 5 1 v' (j+1) (ints .u8 (refL (strL s) (j+1)))∧Below w.heap.size w w'):=Lib.hid ⟨by rw[←HNX.out];exact hown',(HBE.out.alloc hsz _).grown hgr (by simp;omega) (zdf HOW.out)⟩
     clear hown' hgr
     go_wp2_with fail
     go_roundw
     case rel=>exact⟨j+1,by have:=HA.out;omega,by rw[show 6*(j+1)=a+6 by have:=HA.out;omega];go_num,HW.out.1,HW.out.2⟩
     case measure=>simp[intOf];omega
  ·have hltI: ¬(a:Int)<8*(s.size:Int):=by omega
   have hjj:j=(8*s.size+5)/6:=by have:=HA.out;omega
   have hO:=HOW.out
   rw[hjj]at hO
   rw[show refL (strL s) ((8*s.size+5)/6)=encL (strL s)by rw[←zaQ s];exact refL_enc _ fun x hx=>(zaz s).mem hx]at hO
   obtain⟨A,c,rfl,hc,hlie⟩:=znZ hO (by rw[zbd,zaQ])
   have hcv:=zdo A (encL (strL s)) ((8*s.size+5)/6) c wr (by rw[zbd,zaQ]) hlie
   have HTX:Hid (toS (encL (strL s))=txt s):=Lib.hid rfl
   rw[HTX.out]at hcv
   obtain⟨m,hm⟩: ∃m,m=(8*s.size+5)/6:=⟨_,rfl⟩
   rw[←hm]at hcv⊢
   clear hO hc hlie hm hjj
   go_wp2_with fail
   go_ret
   exact⟨rfl,HBE.out⟩
end Go.Proofs.YtceddodfddlncaaGreatDoor
