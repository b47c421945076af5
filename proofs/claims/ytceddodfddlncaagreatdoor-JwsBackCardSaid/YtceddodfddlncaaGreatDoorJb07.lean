
import Derived.Test.YtceddodfddlncaaGreatDoorJb05
set_option maxRecDepth 100000
set_option maxHeartbeats 16000000
set_option linter.all false
namespace Go.Proofs.YtceddodfddlncaaGreatDoor
open Go Go.RowKit
theorem z24:(Tryz.prog.info? 82).map (·.zero)=some (some (.agg (ints .u8 (List.replicate 32 0)).toArray)):=by kernel_rfl
theorem s24:(Tryz.prog.info? 82).map (·.size)=some 32:=by kernel_rfl
theorem z35:(Tryz.prog.info? 179).map (·.zero)=some (some (.agg (ints .u8 (List.replicate 64 0)).toArray)):=by kernel_rfl
theorem zgs (sum blk:List Int) (n:Nat) (hs:sum.length=8) (hb:blk.length=64):(HC sum blk n)[72]? =some (.int .u64 (n:Int)):=by
 simp[HC,List.getElem?_append,hs,hb]
theorem HC_sum (sum blk:List Int) (n:Nat): ∀j v,(ints .u32 sum)[j]? =some v→(HC sum blk n)[0+j]? =some v:=by
 intro j v h
 have hj:=(List.getElem?_eq_some_iff.1 h).1
 rw[HC,Nat.zero_add,List.getElem?_append_left hj];exact h
theorem HC_blk (sum blk:List Int) (n:Nat) (hs:sum.length=8): ∀j v,(ints .u8 blk)[j]? =some v→(HC sum blk n)[8+j]? =some v:=by
 intro j v h
 have hj:=(List.getElem?_eq_some_iff.1 h).1
 rw[HC,List.getElem?_append_right (by simp[hs]),List.getElem?_append_left (by simp[hs];simpa using hj)]
 simpa[hs]using h
theorem zep (sum blk:List Int) (n:Nat):(HC sum blk n).length=sum.length+blk.length+1:=by simp[HC];omega
theorem zgg (g:Nat) (sum blk:List Int) (n:Nat) (w:World) (hs:sum.length=8) (hb:blk.length=64) (hn:n<2305843009213693952) (hg:Blk w g 221 (HC sum blk n)):
  Calls Tryz.prog 178 #[.pointer (some ⟨g,0,none⟩)] w fun e w'=>e= .returned (.int .i64 ((n%64:Nat):Int))∧w=w':=by
 have hc:=(hg.cell 72).trans (zgs sum blk n hs hb)
 have HS:=Lib.hid hs
 have HB:=Lib.hid hb
 clear hs hb
 go_enter Tryz.func178,Tryz.ntmps178
 go_wp2
 go_ret
 exact⟨rfl,rfl⟩
theorem soFar_any (g:Nat) (sum blk:List Int) (n:Nat) (w:World) (hs:sum.length=8) (hb:blk.length=64) (hn:n<2305843009213693952) (hg:Blk w g 221 (HC sum blk n))
  (hst:Blk w 3 219 (ints .u32 startL)):
  Calls Tryz.prog 180 #[.pointer (some ⟨g,0,none⟩)] w fun e w'=>e= .returned (.agg (ints .u32 (if n<64 then startL else sum)).toArray)∧Below w.heap.size w w':=by
 have hlt:=hg.lt
 have hlt1:=hst.lt
 have hc0:=zgs sum blk n hs hb
 have HC0:=Lib.hid hc0
 have HS:=Lib.hid hs
 have HB:=Lib.hid hb
 clear hs hb hc0
 by_cases h:n<64
 ·go_enter Tryz.func180,Tryz.ntmps180
  go_wp2_with(first
   |(refine zaK rfl (some 2) rfl _ rfl _ z34 ?_;intro g2 w2 hg2 hb2 hgr;have hB:=(Below.refl _ w).grown hgr (Nat.le_refl _) (by simp);replace hg:=hg.grownN hgr;replace hst:=hst.grownN hgr;clear hgr)
   |(refine zbV rfl (some 6) rfl _ (.tmp 5) rfl g 72 rfl _ _ hg (.int .u64 (n:Int)) HC0.out .u64 Tryz.underlying165 ?_)
   |(refine zae rfl (some 8) rfl _ (.global 3) rfl _ 0 rfl _ _ hst (ints .u32 startL) (by simp) _ Tryz.underlying219 rfl (by rw[s34];rfl) ?_)
   |(refine zac rfl none rfl _ (.tmp 2) (.tmp 8) rfl g2 0 (ints .u32 startL) rfl rfl _ _ hb2 (by decide) (by rw[s34];rfl) (zal _ _) ?_;intro w11 hb11 hgr11;replace hB:=hB.grown hgr11 hB.size (by intro k hk;injection hk with hk;omega)))
  rw[zah _ _ (by decide)]at hb11
  exact bodyPost_ret (v:= .agg (ints .u32 startL).toArray) (zbb Tryz.results180 _ _ g2 _ _ _ rfl hb11 Tryz.underlying219 rfl (by rw[s34];rfl)) rfl ⟨rfl,hB⟩
 ·go_enter Tryz.func180,Tryz.ntmps180
  go_wp2_with(first
   |(refine zaK rfl (some 2) rfl _ rfl _ z34 ?_;intro g2 w2 hg2 hb2 hgr;have hB:=(Below.refl _ w).grown hgr (Nat.le_refl _) (by simp);replace hg:=hg.grownN hgr;replace hst:=hst.grownN hgr;clear hgr)
   |(refine zbV rfl (some 6) rfl _ (.tmp 5) rfl g 72 rfl _ _ hg (.int .u64 (n:Int)) HC0.out .u64 Tryz.underlying165 ?_)
   |(refine zae rfl (some 12) rfl _ (.tmp 11) rfl _ 0 rfl _ _ hg (ints .u32 sum) (HC_sum _ _ _) _ Tryz.underlying219 rfl (by rw[s34,length_ints,HS.out]) ?_)
   |(refine zac rfl none rfl _ (.tmp 2) (.tmp 12) rfl g2 0 (ints .u32 sum) rfl rfl _ _ hb2 (by simp[HS.out]) (by rw[s34,length_ints,HS.out]) (zal _ _) ?_;intro w11 hb11 hgr11;replace hB:=hB.grown hgr11 hB.size (by intro k hk;injection hk with hk;omega)))
  rw[zah _ _ (by simp[HS.out])]at hb11
  exact bodyPost_ret (v:= .agg (ints .u32 sum).toArray) (zbb Tryz.results180 _ _ g2 _ _ _ rfl hb11 Tryz.underlying219 rfl (by rw[s34,length_ints,HS.out])) rfl ⟨rfl,hB⟩
theorem shr8_bd (m:Int) (h0:0≤m) (h1:m<18446744073709551616): ∀k,0≤shr8 m k∧shr8 m k<18446744073709551616
 |0=>⟨h0,h1⟩
 |k+1=>by have:=shr8_bd m h0 h1 k;unfold shr8;omega
theorem zia (g:Nat) (L:List Int) (m:Int) (w:World) (hL:L.length=64) (hm0:0≤m) (hm1:m<18446744073709551616) (hg:Blk w g 179 (ints .u8 L)):
  Calls Tryz.prog 181 #[.slice (some ⟨g,56,none⟩) 8 8,.int .u64 m] w fun e w'=>e= .returned (.tuple #[])∧Blk w' g 179 (ints .u8 (putC L m 8))∧w.grownBy w' (some g):=by
 have HL:=Lib.hid hL
 have HM:=Lib.hid (shr8_bd m hm0 hm1)
 clear hL
 go_enter Tryz.func181,Tryz.ntmps181
 go_wp2
 go_loopw[1,4] (fun c i wr=> ∃k:Nat,k≤8∧c= .int .u64 (shr8 m k)∧i= .int .i64 (7-(k:Int))∧Blk wr g 179 (ints .u8 (putC L m k))∧w.grownBy wr (some g)) (fun _ i _=>(intOf i+1).toNat)
 case atStart=>exact⟨0,by omega,rfl,rfl,hg,zaY _ _⟩
 case round=>
  clear hg
  obtain⟨k,hk,rfl,rfl,hbr,hgr⟩:=hrel
  by_cases hlt:k<8
  ·obtain⟨hx0,hx1⟩:=HM.out k
   have HX:Hid (shr8 m (k+1)=shr8 m k/256):=rfl
   have HS:Hid ((ints .u8 (putC L m k)).set (56+(7-k)) (.int .u8 (shr8 m k%256))=ints .u8 (putC L m (k+1))):=by rw[zcc];exact rfl
   obtain⟨x,hx⟩: ∃x,x=shr8 m k:=⟨_,rfl⟩
   rw[←hx]at hx0 hx1 HX HS⊢
   clear hx
   go_wp2_with(first
    |(refine zaf rfl none rfl _ (.tmp 16) (.tmp 15) rfl g (56+(7-k)) (.int .u8 (x%256)) rfl rfl rfl _ _ hbr (by rw[length_ints,length_putC,HL.out];omega) s5 ?_;intro w4 hb4 hgr4;replace hgr:=hgr.trans hgr4))
   go_roundw
   case rel=>rw[HS.out]at hb4;exact⟨k+1,by omega,by rw[HX.out],by(congr 1;omega),hb4,hgr⟩
   case measure=>simp[intOf];omega
  ·have HK:=Lib.hid (show k=8 by omega)
   go_wp2_with fail
   go_end0
   rw[HK.out]at hbr
   exact⟨rfl,hbr,hgr⟩
theorem ziW (s:List Int) (w:World) (hs:s.length=8) (hsd: ∀i,0≤s.getD i 0∧s.getD i 0<4294967296):
  Calls Tryz.prog 182 #[.agg (ints .u32 s).toArray] w fun e w'=>e= .returned (.agg (ints .u8 (sbL s 8)).toArray)∧Below w.heap.size w w':=by
 have HS:=Lib.hid hs
 have HSD:=Lib.hid hsd
 clear hs hsd
 go_enter Tryz.func182,Tryz.ntmps182
 go_wp2_with(first
  |(refine zda rfl (some 1) rfl _ (.tmp 0) rfl (ints .u32 s) rfl ?_;intro g1 w1 hg1 hb1 hgr;have hB:=(Below.refl _ w).grown hgr (Nat.le_refl _) (by simp);clear hgr)
  |(refine zaK rfl (some 2) rfl _ rfl _ z24 ?_;intro g2 w2 hg2 hb2 hgr;have h2B:w.heap.size≤g2:=Nat.le_trans hB.size hg2;replace hB:=hB.grown hgr hB.size (by simp);replace hb1:=hb1.grownN hgr;clear hgr)
  |(refine zaK rfl (some 3) rfl _ rfl _ z24 ?_;intro g3 w3 hg3 hb3 hgr;have h23:g2<g3:=Nat.lt_of_lt_of_le hb2.lt hg3;have h3B:w.heap.size≤g3:=Nat.le_trans hB.size hg3;replace hB:=hB.grown hgr hB.size (by simp);replace hb1:=hb1.grownN hgr;replace hb2:=hb2.grownN hgr;clear hgr)
  |(refine zae rfl (some 6) rfl _ (.tmp 1) rfl _ 0 rfl _ _ hb1 (ints .u32 s) (by simp) _ Tryz.underlying219 rfl (by rw[s34,length_ints,HS.out]) ?_))
 go_loopw[7] (fun i wr=> ∃k:Nat,k≤8∧i= .int .i64 k∧Blk wr g3 82 (ints .u8 (sbL s k))∧w3.grownBy wr (some g3)) (fun i _=>8-(intOf i).toNat)
 case atStart=>exact⟨0,by omega,rfl,hb3,zaY _ _⟩
 case round=>
  obtain⟨k,hk,rfl,hbr,hgr⟩:=hrel
  by_cases hlt:k<8
  ·have gx:=zaq .u32 s k (by rw[HS.out];exact hlt)
   obtain⟨hx0,hx1⟩:=HSD.out k
   have HL:Hid ((ints .u8 (sbL s k)).length=32):=Lib.hid (by simp)
   have HSET:Hid (((((ints .u8 (sbL s k)).set (4*k) (.int .u8 (s.getD k 0/16777216))).set (4*k+1) (.int .u8 (s.getD k 0/65536%256))).set (4*k+2) (.int .u8 (s.getD k 0/256%256))).set (4*k+3) (.int .u8 (s.getD k 0%256))=ints .u8 (sbL s (k+1))):=by
    rw[zcc,zcc,zcc,zcc];exact rfl
   obtain⟨x,hx⟩: ∃x,x=s.getD k 0:=⟨_,rfl⟩
   rw[←hx]at gx hx0 hx1 HSET
   obtain⟨C,hC⟩: ∃C,C=ints .u8 (sbL s k):=⟨_,rfl⟩
   rw[←hC]at hbr HL HSET
   have GX:=Lib.hid gx
   clear hx gx hC
   go_wp2_with(first
    |(refine zcl rfl (some 10) rfl _ (.tmp 6) (.tmp 7) rfl (ints .u32 s) rfl .i64 k rfl 8 124 Tryz.underlying219 hlt .u32 Tryz.underlying124 s33 (.int .u32 x) GX.out ?_)
    |(refine zaf rfl none rfl _ (.tmp 16) (.tmp 15) rfl g3 (4*k) (.int .u8 (x/16777216)) rfl rfl rfl _ _ hbr (by rw[HL.out];omega) s5 ?_;intro w4 hb4 hgr4;replace hgr:=hgr.trans hgr4;clear hbr hgr4)
    |(refine zaf rfl none rfl _ (.tmp 23) (.tmp 22) rfl g3 (4*k+1) (.int .u8 (x/65536%256)) rfl rfl rfl _ _ hb4 (by rw[List.length_set,HL.out];omega) s5 ?_;intro w5 hb5 hgr4;replace hgr:=hgr.trans hgr4;clear hb4 hgr4)
    |(refine zaf rfl none rfl _ (.tmp 30) (.tmp 29) rfl g3 (4*k+2) (.int .u8 (x/256%256)) rfl rfl rfl _ _ hb5 (by rw[List.length_set,List.length_set,HL.out];omega) s5 ?_;intro w6 hb6 hgr4;replace hgr:=hgr.trans hgr4;clear hb5 hgr4)
    |(refine zaf rfl none rfl _ (.tmp 36) (.tmp 35) rfl g3 (4*k+3) (.int .u8 (x%256)) rfl rfl rfl _ _ hb6 (by rw[List.length_set,List.length_set,List.length_set,HL.out];omega) s5 ?_;intro w7 hb7 hgr4;replace hgr:=hgr.trans hgr4;clear hb6 hgr4))
   go_roundw
   case rel=>rw[HSET.out]at hb7;exact⟨k+1,by omega,by go_num,hb7,hgr⟩
   case measure=>simp[intOf];omega
  ·have HK:=Lib.hid (show k=8 by omega)
   replace hbr:Blk wr g3 82 (ints .u8 (sbL s 8)):=by rw[←HK.out];exact hbr
   have hb2w:=hb2.grown hgr (by intro h;injection h with h;omega)
   replace hB:=hB.grown hgr hB.size (by intro k hk;injection hk with hk;omega)
   obtain⟨M,hM⟩: ∃M,M=sbL s 8:=⟨_,rfl⟩
   have HLM:Hid (M.length=32):=Lib.hid (by rw[hM,length_sbL])
   rw[←hM]at hbr
   have HM:=Lib.hid hM
   clear hM hb1 hb2 hb3 hgr
   go_wp2_with(first
    |(refine zae rfl (some 38) rfl _ (.tmp 3) rfl _ 0 rfl _ _ hbr (ints .u8 M) (by simp) _ Tryz.underlying82 rfl (by rw[s24,length_ints,HLM.out]) ?_)
    |(refine zac rfl none rfl _ (.tmp 2) (.tmp 38) rfl g2 0 (ints .u8 M) rfl rfl _ _ hb2w (by simp[HLM.out]) (by rw[s24,length_ints,HLM.out]) (zal _ _) ?_;intro w11 hb11 hgr11;replace hB:=hB.grown hgr11 hB.size (by intro k hk;injection hk with hk;omega)))
   rw[zah _ _ (by simp[HLM.out])]at hb11
   exact bodyPost_ret (v:= .agg (ints .u8 M).toArray) (zbb Tryz.results182 _ _ g2 _ _ _ rfl hb11 Tryz.underlying82 rfl (by rw[s24,length_ints,HLM.out])) rfl ⟨by rw[HM.out],hB⟩
theorem Blk.ne_ {w:World} {g g':Nat} {t t':TypeId} {cs cs':List Value} (h:Blk w g t cs) (h':Blk w g' t' cs') (hne:t≠t'):g≠g':=by
 rintro rfl
 unfold Blk at h h'
 rw[h]at h'
 injection h' with h'
 injection h' with _ ht _
 exact hne ht
def HRep (w:World) (g:Nat) (bs:List Int):Prop:= ∃sum blk,HOk sum blk bs∧Blk w g 221 (HC sum blk bs.length)
def Tabs (w:World):Prop:=Blk w 2 252 (ints .u32 rootsL)∧Blk w 3 219 (ints .u32 startL)
theorem Tabs.grown {w w':World} (h:Tabs w) {g:Nat} {cs:List Value} (hb:Blk w g 221 cs) (hg:w.grownBy w' (some g)):Tabs w':=
 ⟨h.1.grown hg (by intro e;injection e with e;exact h.1.ne_ hb (by decide) e),h.2.grown hg (by intro e;injection e with e;exact h.2.ne_ hb (by decide) e)⟩
theorem Tabs.below {w w':World} (h:Tabs w) (hg:Below w.heap.size w w'):Tabs w':=⟨h.1.below hg h.1.lt,h.2.below hg h.2.lt⟩
def lenOf:Value→Nat
 | .slice _ n _=>n
 |_=>0
theorem s36:(Tryz.prog.info? 165).map (·.size)=some 1:=by kernel_rfl
theorem HC_splice (sum blk:List Int) (n r:Nat) (ds:List Int) (hs:sum.length=8) (hb:blk.length=64) (hr:r+ds.length≤64):
  splice (HC sum blk n) (8+r) (ints .u8 ds)=HC sum (splice blk r ds) n:=by
 have e1:(HC sum blk n).take (8+r)=ints .u32 sum++ints .u8 (blk.take r):=by
  rw[HC,List.take_append,length_ints,hs,List.take_of_length_le (by simp;omega),show 8+r-8=r by omega,List.take_append_of_le_length (by simp;omega)]
  simp[ints]
 have e2:(HC sum blk n).drop (8+r+ds.length)=ints .u8 (blk.drop (r+ds.length))++[.int .u64 (n:Int)]:=by
  rw[HC,List.drop_append,length_ints,hs,List.drop_eq_nil_of_le (by simp;omega),show 8+r+ds.length-8=r+ds.length by omega,List.drop_append_of_le_length (by simp;omega)]
  simp[ints]
 rw[splice,length_ints,e1,e2,HC,splice]
 simp[ints]
theorem zko (sum blk:List Int) (n m:Nat) (hs:sum.length=8) (hb:blk.length=64):(HC sum blk n).set 72 (.int .u64 (m:Int))=HC sum blk m:=by
 rw[HC,List.set_append_right _ _ (by simp[hs]),List.set_append_right _ _ (by simp[hs,hb])]
 simp[HC,hs,hb]
theorem eight (l:List Int) (h:l.length=8): ∃a b c d e f g h:Int,l=[a,b,c,d,e,f,g,h]:=by
 match l,h with
 |[a,b,c,d,e,f,g,h],_=>exact⟨a,b,c,d,e,f,g,h,rfl⟩
def SS (g:Nat) (cs:List Value) (base W:World):Prop:=Blk W g 221 cs∧Tabs W∧base.grownBy W (some g)
theorem SS.drew {g:Nat} {cs:List Value} {base W:World} (h:SS g cs base W):SS g cs base W.drew:=⟨h.1.drew,h.2.1,zaJ h.2.2⟩
theorem SS.below {g:Nat} {cs:List Value} {base W W':World} (h:SS g cs base W) (hb:Below W.heap.size W W'):SS g cs base W':=
 ⟨h.1.below hb h.1.lt,h.2.1.below hb,h.2.2.trans (zaX hb _)⟩
theorem HC_set_sum (sum sum' blk:List Int) (n:Nat) (hs:sum.length=8) (hs':sum'.length=8):splice (HC sum blk n) 0 (ints .u32 sum')=HC sum' blk n:=by
 simp[splice,HC,hs,hs',ints]
theorem write_any (g:Nat) (bs xs:List Int) (A:Option Addr) (c:Nat) (w:World) (hx:Bytes xs) (hc:xs.length≤c) (hn:bs.length+xs.length<2305843009213693952)
  (hrep:HRep w g bs) (hsrc:Src w g A xs) (htab:Tabs w):
  Calls Tryz.prog 154 #[.pointer (some ⟨g,0,none⟩),.slice A xs.length c] w fun e w'=>e= .returned (.tuple #[])∧HRep w' g (bs++xs)∧w.grownBy w' (some g):=by
 obtain⟨sum0,blk0,hok0,hb0⟩:=hrep
 have HT0:=Lib.hid htab
 have HOK0:=Lib.hid hok0
 have HX:=Lib.hid hx
 clear hx htab hok0
 go_enter Tryz.func154,Tryz.ntmps154
 go_wp2_with fail
 go_loopw[1] (fun v wr=> ∃(pre post sum blk:List Int) (A':Option Addr) (c':Nat),xs=pre++post∧v= .slice A' post.length c'∧post.length≤c'∧HOk sum blk (bs++pre)∧Blk wr g 221 (HC sum blk (bs++pre).length)∧Src wr g A' post∧w.grownBy wr (some g)) (fun v _=>lenOf v)
 case atStart=>exact⟨[],xs,sum0,blk0,A,c,rfl,rfl,hc,by simpa using HOK0.out,by simpa using hb0,hsrc,zaY _ _⟩
 case round=>
  have HB0:=Lib.hid hb0
  clear hb0 HOK0 hsrc
  obtain⟨pre,post,sum,blk,A',c',hxs,rfl,hc',hok,hb,hsrc,hgr⟩:=hrel
  have HT:Hid (Tabs wr):=Lib.hid (HT0.out.grown HB0.out hgr)
  have hlx:bs.length+pre.length+post.length<2305843009213693952:=by rw[hxs,List.length_append]at hn;omega
  have HXS:=Lib.hid hxs
  have HBY:Hid (Bytes post):=Lib.hid (Bytes.right (l:=pre) (by rw[←hxs];exact HX.out))
  clear hxs
  obtain⟨acc,hacc⟩: ∃acc,acc=bs++pre:=⟨_,rfl⟩
  have hla:acc.length+post.length<2305843009213693952:=by rw[hacc,List.length_append];exact hlx
  rw[←hacc]at hok hb
  have HACC:=Lib.hid hacc
  clear hacc hlx
  obtain⟨n,hn'⟩: ∃n,n=acc.length:=⟨_,rfl⟩
  obtain⟨r,hr⟩: ∃r,r=acc.length%64:=⟨_,rfl⟩
  obtain⟨m,hm⟩: ∃m,m=post.length:=⟨_,rfl⟩
  have hr64:r<64:=by omega
  have hrn:r≤n:=by omega
  have hnb:n+m<2305843009213693952:=by omega
  rw[←hm]at hc'⊢
  by_cases hm0:0<m
  ·obtain⟨q,hq⟩: ∃q,q=Nat.min m (64-r):=⟨_,rfl⟩
   have hq0:0<q:=by simp only[Nat.min_def]at hq;split at hq<;>omega
   have hqm:q≤m:=by simp only[Nat.min_def]at hq;split at hq<;>omega
   have hqr:r+q≤64:=by simp only[Nat.min_def]at hq;split at hq<;>omega
   have HDL:Hid ((post.take q).length=q):=Lib.hid (by rw[List.length_take];omega)
   have hwait:=fun(w':World) (h:Blk w' g 221 (HC sum blk acc.length))=>zgg g sum blk acc.length w' hok.1 hok.2.2.1 (by omega) h
   rw[←hr]at hwait
   have HOK:=Lib.hid hok
   have HN:=Lib.hid hn'
   have HR:=Lib.hid hr
   have HM:=Lib.hid hm
   have HQ:=Lib.hid hq
   clear hok hn' hr hm hq hla hn
   go_wp2_with fail
   have hcopy:=hsrc.src q
   have hsl:=zcn (P:=Tryz.prog) 179 5 64 Tryz.underlying179 s5 g 8 r hr64 .i64
   go_region_law(first
    |(refine zdk (w:=wr.drew) rfl (.tmp 15) (.tmp 16) _ _ rfl 5 Tryz.underlying46 s5 (some ⟨g,8+r,none⟩) A' (64-r) (64-r) m c' (by simp[Act.eval,Act.put]) (by simp[Act.eval,Act.put]) g (8+r) _ _ hb (ints .u8 (post.take q)) q (by rw[length_ints,HDL.out]) HQ.out (fun hp=>⟨rfl,hcopy hp⟩) (by rw[zep,HOK.out.1,HOK.out.2.2.1,length_ints,HDL.out];omega) (zal _ _) ?_;intro w2 hb2 hgr2)
    |(go_simp;go_at_call 178;refine(hwait wr.drew hb).mono ?_;rintro e w' ⟨rfl,rfl⟩))
   replace hgr:=(zaJ hgr).trans hgr2
   have hsrc2:=(show Src wr.drew g A' post from hsrc).grown hgr2 (.inr rfl)
   have HT2:Hid (Tabs w2):=Lib.hid ((show Tabs wr.drew from HT.out).grown (Blk.drew hb) hgr2)
   have HB2:Blk w2 g 221 (HC sum (splice blk r (post.take q)) acc.length):=by
    rw[←HC_splice _ _ _ _ _ HOK.out.1 HOK.out.2.2.1 (by rw[HDL.out];exact hqr)];exact hb2
   have hs8:=HOK.out.1
   have hb64:(splice blk r (post.take q)).length=64:=by rw[HR.out];exact(zhq HOK.out _ (by rw[HDL.out,←HR.out];exact hqr)).2
   obtain⟨blk2,hblk2⟩: ∃b,b=splice blk r (post.take q):=⟨_,rfl⟩
   rw[←hblk2]at HB2 hb64
   have hwait2:=fun(w':World) (h:Blk w' g 221 (HC sum blk2 acc.length))=>zgg g sum blk2 acc.length w' hs8 hb64 (by rw[←HN.out];omega) h
   rw[←HR.out]at hwait2
   have HBK:=Lib.hid hblk2
   have HS8:=Lib.hid hs8
   have HB64:=Lib.hid hb64
   clear hb hb2 hgr2 hsrc hwait hcopy hsl hblk2 hs8 hb64
   by_cases hfull:r+q=64
   ·go_wp2_with(go_at_call 178;refine(hwait2 _ HB2).mono ?_;rintro e w' ⟨rfl,rfl⟩)
    have hst:(if acc.length<64 then startL else sum)=zby acc (acc.length/64):=HOK.out.soFar
    obtain⟨st,hstd⟩: ∃st,st=zby acc (acc.length/64):=⟨_,rfl⟩
    have cs: ∀W,SS g (HC sum blk2 acc.length) w2 W→Calls Tryz.prog 180 #[.pointer (some ⟨g,0,none⟩)] W fun e w'=>e= .returned (.agg (ints .u32 st).toArray)∧Below W.heap.size W w':=fun W h=>by
     have:=soFar_any g sum blk2 acc.length W HS8.out HB64.out (by rw[←HN.out];omega) h.1 h.2.1.2
     rw[hst,←hstd]at this;exact this
    obtain⟨M,hM⟩: ∃M,M=mixL st blk2:=⟨_,rfl⟩
    have hM8:M.length=8:=by rw[hM,zbc,hstd,zbr]
    have hby2:Bytes blk2:=by rw[HBK.out];exact HOK.out.2.2.2.1.splice (HBY.out.take q) _
    have cm: ∀W,SS g (HC sum blk2 acc.length) w2 W→Calls Tryz.prog 179 #[.agg (ints .u32 st).toArray,.agg (ints .u8 blk2).toArray] W fun e w'=>e= .returned (.agg (ints .u32 M).toArray)∧Below W.heap.size W w':=fun W h=>by
     have:=znK st blk2 W (by rw[hstd,zbr]) (by rw[hstd];exact zeJ _ _) HB64.out hby2 h.2.1.1
     rw[←hM]at this;exact this
    have hstore: ∀W,SS g (HC sum blk2 acc.length) w2 W→(storeCells ⟨g,0,none⟩ (ints .u32 M) 0).run Tryz.prog W= .ok () (W.setCells g 0 (ints .u32 M)):=fun W h=>by
     have:=run_storeCells_cells (P:=Tryz.prog) g 0 (ints .u32 M) 0 W (fun j hj=>by simpa using((h.1.there 0 8 (by rw[zep,HS8.out,HB64.out];omega)) j (by rw[length_ints,hM8]at hj;exact hj)).1) (fun j hj=>by simpa using((h.1.there 0 8 (by rw[zep,HS8.out,HB64.out];omega)) j (by rw[length_ints,hM8]at hj;exact hj)).2) (zal _ _)
     simpa using this
    have hSS:SS g (HC sum blk2 acc.length) w2 w2:=⟨HB2,HT2.out,zaY _ _⟩
    have u35:=Tryz.underlying179
    have hi35:(Tryz.prog.info? 179).map (·.size)=some (ints .u8 blk2).length:=by rw[s35,length_ints,HB64.out]
    have HST:=Lib.hid hstd
    have HMM:=Lib.hid hM
    have HBY2:=Lib.hid hby2
    clear hst hstd hM hby2
    have HR8:=fun(W:World) (h:SS g (HC sum blk2 acc.length) w2 W)=>h.1.range 8 _ (HC_blk sum blk2 acc.length HS8.out)
    go_region_held3(fun W=>W.rangeAt g 8 (ints .u8 blk2))
     (first|exact HR8 _ hSS|exact HR8 _ hSS.drew|exact HR8 _ hS3|exact HR8 _ hS4|exact World.rangeAt_setCells_apart (HR8 _ hS4) g 0 _ (Or.inr (Or.inr (by simp[hM8]))))
     (first
      |(go_at_call 180;refine(cs _ hSS.drew).mono ?_;rintro e w3 ⟨rfl,hb3⟩;have hS3:=hSS.drew.below hb3)
      |(go_at_call 179;refine(cm _ hS3).mono ?_;rintro e w4 ⟨rfl,hb4⟩;have hS4:=hS3.below hb4))
    have h5:=zcw g _ (ints .u32 M) 0 _ w4 hS4.1 (by rw[zep,HS8.out,HB64.out,length_ints,hM8];omega)
    rw[HC_set_sum _ _ _ _ HS8.out hM8]at h5
    have hT5:=hS4.2.1.grown hS4.1 h5.2
    have hg5:=hgr.trans (hS4.2.2.trans h5.2)
    have hsrc5:=hsrc2.grown (hS4.2.2.trans h5.2) (.inr rfl)
    obtain⟨hB5,_⟩:=h5
    have hw72:=fun(W:World) (h:Blk W g 221 (HC M blk2 acc.length))=>(h.cell 72).trans (zgs M blk2 acc.length hM8 HB64.out)
    have HM8:=Lib.hid hM8
    generalize w4.setCells g 0 (ints .u32 M)=w5 at*
    clear cs cm hstore hSS hi35 u35 HR8 hS3 hS4 hb3 hb4 hM8
    rw[←HN.out]at hB5 hw72
    have hok5:HOk M blk2 (acc++post.take q):=by rw[HMM.out,HST.out,HBK.out,HR.out];exact HOK.out.full _ (HBY.out.take q) (by rw[HDL.out,←HR.out];exact hfull)
    have hnl:n+q=(acc++post.take q).length:=by rw[List.length_append,HDL.out,HN.out]
    have hsl2:=zfc (P:=Tryz.prog) 46 5 Tryz.underlying46 s5 A' m c' q hqm .i64
    obtain⟨A2,hA2⟩: ∃A2,A2=(if c'=q then A' else A'.map (·.add q)):=⟨_,rfl⟩
    rw[←hA2]at hsl2
    have HA2:=Lib.hid hA2
    have HOK5:=Lib.hid hok5
    have HNL:=Lib.hid hnl
    clear hA2 hok5 hnl
    go_wp2_with(first
     |(refine zbV rfl (some 36) rfl _ (.tmp 35) rfl g 72 rfl _ _ hB5 (.int .u64 (n:Int)) (zgs _ _ _ HM8.out HB64.out) .u64 Tryz.underlying165 ?_)
     |(refine zaf rfl none rfl _ (.tmp 41) (.tmp 39) rfl g 72 (.int .u64 ((n:Int)+(q:Int))) rfl rfl rfl _ _ hB5 (by rw[zep,HM8.out,HB64.out];omega) s36 ?_;intro w6 hb6 hgr6))
    have hb6':Blk w6 g 221 (HC M blk2 (acc++post.take q).length):=by
     have:=zko M blk2 n (n+q) HM8.out HB64.out
     rw[Int.natCast_add]at this
     rw[this]at hb6
     rw[←HNL.out];exact hb6
    have hsrc6:Src w6 g A2 (post.drop q):=by
     have h1:=hsrc5.grown hgr6 (.inr rfl)
     rw[HA2.out]
     by_cases hcq:c'=q
     ·rw[List.drop_eq_nil_of_le (by rw[←HM.out];omega)];exact Src.nil _ _ _
     ·rw[if_neg hcq];exact h1.drop q
    go_roundw
    case rel=>
     refine⟨pre++post.take q,post.drop q,M,blk2,A2,c'-q,?_,?_,?_,?_,?_,hsrc6,hg5.trans hgr6⟩
     ·rw[HXS.out,List.append_assoc,List.take_append_drop]
     ·rw[List.length_drop,HM.out]
     ·rw[List.length_drop,←HM.out];omega
     ·rw[←List.append_assoc,←HACC.out];exact HOK5.out
     ·rw[←List.append_assoc,←HACC.out];exact hb6'
    case measure=>simp[lenOf];omega
   ·have hB5:Blk w2 g 221 (HC sum blk2 n):=by rw[HN.out];exact HB2
    have HM8:=HS8
    have hsrc5:=hsrc2
    have hg5:=hgr
    have hok5:HOk sum blk2 (acc++post.take q):=by rw[HBK.out,HR.out];exact HOK.out.part _ (HBY.out.take q) (by rw[HDL.out,←HR.out];omega)
    have hnl:n+q=(acc++post.take q).length:=by rw[List.length_append,HDL.out,HN.out]
    have hsl2:=zfc (P:=Tryz.prog) 46 5 Tryz.underlying46 s5 A' m c' q hqm .i64
    obtain⟨A2,hA2⟩: ∃A2,A2=(if c'=q then A' else A'.map (·.add q)):=⟨_,rfl⟩
    rw[←hA2]at hsl2
    have HA2:=Lib.hid hA2
    have HOK5:=Lib.hid hok5
    have HNL:=Lib.hid hnl
    clear hA2 hok5 hnl
    go_wp2_with(first
     |(go_at_call 178;refine(hwait2 _ HB2).mono ?_;rintro e w' ⟨rfl,rfl⟩)
     |(refine zbV rfl (some 36) rfl _ (.tmp 35) rfl g 72 rfl _ _ hB5 (.int .u64 (n:Int)) (zgs _ _ _ HM8.out HB64.out) .u64 Tryz.underlying165 ?_)
     |(refine zaf rfl none rfl _ (.tmp 41) (.tmp 39) rfl g 72 (.int .u64 ((n:Int)+(q:Int))) rfl rfl rfl _ _ hB5 (by rw[zep,HM8.out,HB64.out];omega) s36 ?_;intro w6 hb6 hgr6))
    have hb6':Blk w6 g 221 (HC sum blk2 (acc++post.take q).length):=by
     have:=zko sum blk2 n (n+q) HM8.out HB64.out
     rw[Int.natCast_add]at this
     rw[this]at hb6
     rw[←HNL.out];exact hb6
    have hsrc6:Src w6 g A2 (post.drop q):=by
     have h1:=hsrc5.grown hgr6 (.inr rfl)
     rw[HA2.out]
     by_cases hcq:c'=q
     ·rw[List.drop_eq_nil_of_le (by rw[←HM.out];omega)];exact Src.nil _ _ _
     ·rw[if_neg hcq];exact h1.drop q
    go_roundw
    case rel=>
     refine⟨pre++post.take q,post.drop q,sum,blk2,A2,c'-q,?_,?_,?_,?_,?_,hsrc6,hg5.trans hgr6⟩
     ·rw[HXS.out,List.append_assoc,List.take_append_drop]
     ·rw[List.length_drop,HM.out]
     ·rw[List.length_drop,←HM.out];omega
     ·rw[←List.append_assoc,←HACC.out];exact HOK5.out
     ·rw[←List.append_assoc,←HACC.out];exact hb6'
    case measure=>simp[lenOf];omega
  ·have HP:Hid (post=[]):=Lib.hid (List.eq_nil_of_length_eq_zero (by omega))
   go_wp2_with fail
   go_end0
   refine⟨rfl,⟨sum,blk,?_,?_⟩,hgr⟩
   ·rw[HXS.out,HP.out,List.append_nil,←HACC.out];exact hok
   ·rw[HXS.out,HP.out,List.append_nil,←HACC.out];exact hb
theorem z38:(Tryz.prog.info? 221).map (·.zero)=some (some (.agg (HC (List.replicate 8 0) (List.replicate 64 0) 0).toArray)):=by kernel_rfl
theorem zeros35:Tryz.prog.built 179 []=some (ints .u8 (List.replicate 64 0)).toArray:=by kernel_rfl
theorem pad_eq (rest:List Int) (h:rest.length<64):(splice (ints .u8 (List.replicate 64 0)) 0 (ints .u8 rest)).set rest.length (.int .u8 128)=ints .u8 (padB rest):=by
 have e:splice (ints .u8 (List.replicate 64 0)) 0 (ints .u8 rest)=ints .u8 (rest++List.replicate (64-rest.length) 0):=by
  rw[splice,List.take_zero,List.nil_append,Nat.zero_add,length_ints,zbK]
  congr 1
  simp only[ints,←List.map_drop,List.drop_replicate]
 rw[e,zcc,padB]
 congr 1
 rw[List.set_append_right _ _ (Nat.le_refl _),Nat.sub_self]
 obtain⟨k,hk⟩: ∃k,64-rest.length=k+1:=⟨63-rest.length,by omega⟩
 rw[hk,List.replicate_succ,List.set_cons_zero,show 63-rest.length=k by omega]
theorem Tabs.ofBelow {w w':World} (h:Tabs w) (hg:Below w.heap.size w w'):Tabs w':=h.below hg
theorem hsum_any (g:Nat) (bs:List Int) (w:World) (hn:bs.length<2305843009213693952) (hrep:HRep w g bs) (htab:Tabs w):
  Calls Tryz.prog 155 #[.pointer (some ⟨g,0,none⟩)] w fun e w'=>e= .returned (.agg (ints .u8 (zbX bs)).toArray)∧Below w.heap.size w w':=by
 obtain⟨sum,blk,hok,hbg⟩:=hrep
 obtain⟨n,hn'⟩: ∃n,n=bs.length:=⟨_,rfl⟩
 obtain⟨r,hr⟩: ∃r,r=n%64:=⟨_,rfl⟩
 have hr64:r<64:=by omega
 have hn61:n<2305843009213693952:=by omega
 obtain⟨rest,hrest⟩: ∃rest,rest=bs.drop (64*(bs.length/64)):=⟨_,rfl⟩
 have hrl:rest.length=r:=by rw[hrest,List.length_drop,hr,hn'];omega
 have htk:blk.take r=rest:=by rw[hrest,hr,hn'];exact hok.2.2.2.2.1
 obtain⟨st,hst⟩: ∃st,st=zby bs (bs.length/64):=⟨_,rfl⟩
 have hso:(if bs.length<64 then startL else sum)=st:=by rw[hst];exact hok.soFar
 have hst8:st.length=8:=by rw[hst,zbr]
 have hstw:Words st:=by rw[hst];exact zeJ _ _
 have hrb:Bytes rest:=by rw[←htk];exact hok.2.2.2.1.take r
 have hs8:=hok.1
 have hb64:=hok.2.2.1
 have hwait:=fun(g:Nat) (W:World) (h:Blk W g 221 (HC sum blk n))=>zgg g sum blk n W hs8 hb64 hn61 h
 have hsofar:=fun(g:Nat) (W:World) (h:Blk W g 221 (HC sum blk n)) (ht:Tabs W)=>soFar_any g sum blk n W hs8 hb64 hn61 h ht.2
 rw[←hn']at hso hbg
 rw[←hr]at hwait
 rw[hso]at hsofar
 have hsl:=fun(g:Nat)=>zeg (P:=Tryz.prog) 179 5 64 Tryz.underlying179 s5 g 8 r (by omega) (by omega) .i64
 have hsw:=fun(g:Nat)=>zbQ (P:=Tryz.prog) 179 5 64 Tryz.underlying179 s5 g 0 (by omega)
 have hsf: ∀(g:Nat) (w:World),(Instr.sliceAt 179 (.pointer (some ⟨g,0,none⟩)) (some (.int .i64 56)) none none).run Tryz.prog w= .ok (.slice (some ⟨g,56,none⟩) 8 8) w:=fun(g:Nat)=>zcn (P:=Tryz.prog) 179 5 64 Tryz.underlying179 s5 g 0 56 (by omega) .i64
 have HST:=Lib.hid hst
 have HST8:=Lib.hid hst8
 have HSTW:=Lib.hid hstw
 have HN:=Lib.hid hn'
 have HRL:=Lib.hid hrl
 have HTK:=Lib.hid htk
 have HREST:=Lib.hid hrest
 have HRB:=Lib.hid hrb
 have HS8:=Lib.hid hs8
 have HB64:=Lib.hid hb64
 have HT:=Lib.hid htab
 have HR:=Lib.hid hr
 clear hst hst8 hstw hn' hrl htk hrest hrb hs8 hb64 hok htab hso hn hr
 have hcut:Hid (∀_:Unit,zbX bs=sbL (if 64-r-1<8 then mixL (mixL st (padB rest)) (putC (List.replicate 64 0) (n*8) 8)else mixL st (putC (padB rest) (n*8) 8)) 8):=Lib.hid (fun _=>by
  rw[zbX,finL,HST.out,HREST.out,HN.out,HR.out,HN.out])
 by_cases hlow:64-r-1<8
 ·go_enter Tryz.func155,Tryz.ntmps155
  go_wp2_with(first
   |(refine zaK rfl (some 2) rfl _ rfl _ z24 ?_;intro g2 w2 hg2 hb2 hgr;have hB:=(Below.refl _ w).grown hgr (Nat.le_refl _) (by simp);replace hbg:=hbg.grownN hgr;clear hgr;try go_frame;try go_frame)
   |(refine zaK rfl (some 3) rfl _ rfl _ z35 ?_;intro g3 w3 hg3 hb3 hgr;have hg3g:g<g3:=Nat.lt_of_lt_of_le hbg.lt hg3;have h23:g2<g3:=Nat.lt_of_lt_of_le hb2.lt hg3;have h3B:w.heap.size≤g3:=Nat.le_trans hB.size hg3;replace hB:=hB.grown hgr hB.size (by simp);replace hb2:=hb2.grownN hgr;replace hbg:=hbg.grownN hgr;clear hgr;try go_frame;try go_frame))
  have hrd: ∀j v,(ints .u8 rest)[j]? =some v→w3.drew.cell? ((⟨g,8,none⟩:Addr).add j)=some v:=fun j v hv=>by
   rw[Addr.add_mid]
   refine(hbg.cell (8+j)).trans (HC_blk sum blk n HS8.out j v ?_)
   rw[←HTK.out]at hv
   simp only[ints,List.map_take,List.getElem?_take]at hv
   split at hv
   ·exact hv
   ·cases hv
  go_region_law(first
   |(refine zdk (w:=w3.drew) rfl (.tmp 10) (.tmp 16) _ _ rfl 5 Tryz.underlying46 s5 (some ⟨g3,0,none⟩) (some ⟨g,8,none⟩) 64 64 r 64 (by simp[Act.eval,Act.put]) (by simp[Act.eval,Act.put]) g3 0 _ _ hb3.drew (ints .u8 rest) r (by rw[length_ints,HRL.out]) (Nat.min_eq_left (by omega)).symm (fun _=>⟨rfl,_,rfl,hrd⟩) (by rw[length_ints,length_ints,HRL.out,List.length_replicate];omega) (zal _ _) ?_;intro w4 hb4 hgr4)
   |(go_simp;go_at_call 178;refine(hwait g w3.drew hbg.drew).mono ?_;rintro e w' ⟨rfl,rfl⟩))
  have hgr4':w3.grownBy w4 (some g3):=(zaJ (zaY w3 _)).trans hgr4
  have hB4:=hB.grown hgr4' hB.size (by intro k hk;injection hk with hk;omega)
  have hb2':=hb2.grown hgr4' (by intro h;injection h with h;omega)
  have hbg':=hbg.grown hgr4' (by intro h;injection h with h;omega)
  have hT4:Hid (Tabs w4):=Lib.hid (HT.out.ofBelow hB4)
  clear hgr4 hgr4' hB hb2 hbg hb3 hrd
  go_wp2_with(first
   |(refine zaf rfl none rfl _ (.tmp 19) (Operand.const (.int .u8 128)) rfl g3 r (.int .u8 128) rfl rfl rfl _ _ hb4 (by rw[length_splice _ _ _ (by rw[length_ints,length_ints,HRL.out,List.length_replicate];omega),length_ints,List.length_replicate];omega) s5 ?_;intro w5 hb5 hgr;have hp5:Blk w5 g3 179 (ints .u8 (padB rest)):=(by rw[←pad_eq rest (by rw[HRL.out];omega),HRL.out];exact hb5);have hB5:=hB4.grown hgr hB4.size (by intro k hk;injection hk with hk;omega);have h25:=hb2'.grown hgr (by intro h;injection h with h;omega);have hg5:=hbg'.grown hgr (by intro h;injection h with h;omega);clear hgr hb5;try go_frame;try go_frame)
   |(go_at_call 180;refine(hsofar g w5 hg5 (HT.out.ofBelow hB5)).mono ?_;rintro e w6 ⟨rfl,hbw⟩;have hB6:=hB5.trans (hbw.mono hB5.size);have h26:=h25.below hbw h25.lt;have hg6:=hg5.below hbw hg5.lt;have hp6:=hp5.below hbw hp5.lt;clear hbw;try go_frame)
   |(refine zaK rfl (some 5) rfl _ rfl _ z34 ?_;intro g7 w7 hg7 hb7 hgr;have h37:g3<g7:=Nat.lt_of_lt_of_le hp6.lt hg7;have hg7g:g<g7:=Nat.lt_of_lt_of_le hg6.lt hg7;have h7B:w.heap.size≤g7:=Nat.le_trans hB6.size hg7;have hB7:=hB6.grown hgr hB6.size (by simp);have h27:=h26.grownN hgr;have hgg7:=hg6.grownN hgr;have hp7:=hp6.grownN hgr;clear hgr;try go_frame;try go_frame)
   |(refine zac rfl none rfl _ (.tmp 5) (.tmp 21) rfl g7 0 (ints .u32 st) rfl rfl _ _ hb7 (by simp[HST8.out]) (by rw[s34,length_ints,HST8.out]) (zal _ _) ?_;intro w8 hb8 hgr;rw[zah _ _ (by simp[HST8.out])]at hb8;have hB8:=hB7.grown hgr hB7.size (by intro k hk;injection hk with hk;omega);have h28:=h27.grown hgr (by intro h;injection h with h;omega);have hg8:=hgg7.grown hgr (by intro h;injection h with h;omega);have hp8:=hp7.grown hgr (by intro h;injection h with h;omega);clear hgr;try go_frame;try go_frame)
   |(refine zae rfl (some 28) rfl _ (.tmp 5) rfl _ 0 rfl _ _ hb8 (ints .u32 st) (by simp) _ Tryz.underlying219 rfl (by rw[s34,length_ints,HST8.out]) ?_;try go_frame;try go_frame)
   |(refine zae rfl (some 29) rfl _ (.tmp 3) rfl _ 0 rfl _ _ hp8 (ints .u8 (padB rest)) (by simp) _ Tryz.underlying179 rfl (by rw[s35,length_ints,zbt (by rw[HRL.out];omega)]) ?_;try go_frame;try go_frame)
   |(go_at_call 179;refine(znK st (padB rest) w8 HST8.out HSTW.out (zbt (by rw[HRL.out];omega)) (padB_bd HRB.out) (HT.out.ofBelow hB8).1).mono ?_;rintro e w9 ⟨rfl,hbw⟩;have hB9:=hB8.trans (hbw.mono hB8.size);have h29:=h28.below hbw h28.lt;have hg9:=hg8.below hbw hg8.lt;have hp9:=hp8.below hbw hp8.lt;have hb9:=hb8.below hbw hb8.lt;clear hbw;try go_frame)
   |(refine zac rfl none rfl _ (.tmp 5) (.tmp 30) rfl g7 0 (ints .u32 (mixL st (padB rest))) rfl rfl _ _ hb9 (by simp[HST8.out,zbc]) (by rw[s34,length_ints,zbc,HST8.out]) (zal _ _) ?_;intro wa hba hgr;rw[zah _ _ (by simp[HST8.out,zbc])]at hba;have hBa:=hB9.grown hgr hB9.size (by intro k hk;injection hk with hk;omega);have h2a:=h29.grown hgr (by intro h;injection h with h;omega);have hga:=hg9.grown hgr (by intro h;injection h with h;omega);have hpa:=hp9.grown hgr (by intro h;injection h with h;omega);clear hgr;try go_frame;try go_frame)
   |(refine wpList_buildTo rfl _ _ rfl (some 31) rfl _ zeros35 ?_;try go_frame;try go_frame)
   |(refine zac rfl none rfl _ (.tmp 3) (.tmp 31) rfl g3 0 (ints .u8 (List.replicate 64 0)) rfl rfl _ _ hpa (by rw[length_ints,length_ints,zbt (by rw[HRL.out];omega)];simp) (by rw[s35];rfl) (zal _ _) ?_;intro wb hpb hgr;rw[zah _ _ (by rw[length_ints,length_ints,zbt (by rw[HRL.out];omega)];simp)]at hpb;have hBb:=hBa.grown hgr hBa.size (by intro k hk;injection hk with hk;omega);have h2b:=h2a.grown hgr (by intro h;injection h with h;omega);have hgb:=hga.grown hgr (by intro h;injection h with h;omega);have hbb:=hba.grown hgr (by intro h;injection h with h;omega);clear hgr;try go_frame;try go_frame))
  try go_frame
  have hsz:=(hgb.cell 72).trans (zgs sum blk n HS8.out HB64.out)
  have hL64:(List.replicate 64 (0:Int)).length=64:=by first|(exact zbt (by rw[HRL.out];omega))|simp
  have hLB:Bytes (List.replicate 64 (0:Int)):=by first|exact padB_bd HRB.out|exact Bytes.rep 64
  have hput:=fun W (h:Blk W g3 179 (ints .u8 (List.replicate 64 (0:Int))))=>zia g3 (List.replicate 64 (0:Int)) ((n:Int)*8) W hL64 (by omega) (by omega) h
  have hS8:(mixL st (padB rest)).length=8:=by first|exact HST8.out|(rw[zbc,HST8.out])
  have hSW:Words (mixL st (padB rest)):=by first|exact HSTW.out|(exact fun i=>zfJ _ _ HSTW.out i)
  have hPB:Bytes (putC (List.replicate 64 (0:Int)) ((n:Int)*8) 8):=fun i=>putC_bd _ _ hLB 8 i
  obtain⟨S,hSd⟩: ∃S,S=mixL st (padB rest):=⟨_,rfl⟩
  obtain⟨L,hLd⟩: ∃L,L=putC (List.replicate 64 (0:Int)) ((n:Int)*8) 8:=⟨_,rfl⟩
  have hL8:L.length=64:=by rw[hLd,length_putC,hL64]
  rw[←hSd]at hS8 hSW hbb
  rw[←hLd]at hPB hput
  have HSD:=Lib.hid hSd
  have HLD:=Lib.hid hLd
  have HS8':=Lib.hid hS8
  have HSW':=Lib.hid hSW
  have HPB:=Lib.hid hPB
  have HL8:=Lib.hid hL8
  clear hSd hLd hS8 hSW hPB hL64 hLB hL8
  have hwr:IntKind.u64.wrap ((n:Int)*8)=(n:Int)*8:=by rw[IntKind.wrap_u64];omega
  go_region_law(go_simp;go_at_call 181;((with_reducible refine(hput _ hpb.drew).mono ?_);rintro e wp ⟨rfl,hpp,hgp⟩))
  clear hwr
  have hgp':Go.World.grownBy wb wp (some g3):=(zaJ (zaY wb _)).trans hgp
  have hBp:=hBb.grown hgp' hBb.size (by intro k hk;injection hk with hk;omega)
  have h2p:=h2b.grown hgp' (by intro h;injection h with h;omega)
  have hbp:=hbb.grown hgp' (by intro h;injection h with h;omega)
  clear hgp hgp' hsz hput hBb h2b hgb hbb hpb
  have hmix:=znK S L wp HS8'.out HSW'.out HL8.out HPB.out (HT.out.ofBelow hBp).1
  have hM8:Hid ((mixL S L).length=8):=Lib.hid (by rw[zbc,HS8'.out])
  have hMW:Hid (Words (mixL S L)):=Lib.hid (fun i=>zfJ _ _ HSW'.out i)
  have hfin:Hid (∀_:Unit,zbX bs=sbL (mixL S L) 8):=Lib.hid (fun _=>by rw[hcut.out (),HSD.out,HLD.out];first|rw[if_pos hlow]|rw[if_neg hlow])
  obtain⟨M,hMd⟩: ∃M,M=mixL S L:=⟨_,rfl⟩
  rw[←hMd]at hmix hM8 hMW hfin
  clear hMd
  go_wp2_with(first
   |(refine zae rfl (some 39) rfl _ (.tmp 5) rfl _ 0 rfl _ _ hbp (ints .u32 S) (by simp) _ Tryz.underlying219 rfl (by rw[s34,length_ints,HS8'.out]) ?_;try go_frame;try go_frame)
   |(refine zae rfl (some 40) rfl _ (.tmp 3) rfl _ 0 rfl _ _ hpp (ints .u8 L) (by simp) _ Tryz.underlying179 rfl (by rw[s35,length_ints,HL8.out]) ?_;try go_frame;try go_frame)
   |(go_at_call 179;refine hmix.mono ?_;rintro e wq ⟨rfl,hbw⟩;have hBq:=hBp.trans (hbw.mono hBp.size);have h2q:=h2p.below hbw h2p.lt;have hbq:=hbp.below hbw hbp.lt;clear hbw hmix;try go_frame)
   |(refine zac rfl none rfl _ (.tmp 5) (.tmp 41) rfl g7 0 (ints .u32 M) rfl rfl _ _ hbq (by simp[HS8'.out,hM8.out]) (by rw[s34,length_ints,hM8.out]) (zal _ _) ?_;intro wr hbr hgr;rw[zah _ _ (by simp[HS8'.out,hM8.out])]at hbr;have hBr:=hBq.grown hgr hBq.size (by intro k hk;injection hk with hk;omega);have h2r:=h2q.grown hgr (by intro h;injection h with h;omega);clear hgr;try go_frame;try go_frame)
   |(refine zae rfl (some 42) rfl _ (.tmp 5) rfl _ 0 rfl _ _ hbr (ints .u32 M) (by simp) _ Tryz.underlying219 rfl (by rw[s34,length_ints,hM8.out]) ?_;try go_frame;try go_frame)
   |(go_at_call 182;refine(ziW M wr hM8.out hMW.out).mono ?_;rintro e ws ⟨rfl,hbw⟩;have hBs:=hBr.trans (hbw.mono hBr.size);have h2s:=h2r.below hbw h2r.lt;clear hbw;try go_frame)
   |(refine zac rfl none rfl _ (.tmp 2) (.tmp 43) rfl g2 0 (ints .u8 (sbL M 8)) rfl rfl _ _ h2s (by simp) (by rw[s24,length_ints,length_sbL]) (zal _ _) ?_;intro wt h2t hgr;rw[zah _ _ (by simp)]at h2t;have hBt:=hBs.grown hgr hBs.size (by intro k hk;injection hk with hk;omega);clear hgr;try go_frame;try go_frame))
  exact bodyPost_ret (v:= .agg (ints .u8 (sbL M 8)).toArray) (zbb Tryz.results155 _ _ g2 _ _ _ rfl h2t Tryz.underlying82 rfl (by rw[s24,length_ints,length_sbL])) rfl ⟨by rw[←hfin.out ()],hBt⟩
 ·go_enter Tryz.func155,Tryz.ntmps155
  go_wp2_with(first
   |(refine zaK rfl (some 2) rfl _ rfl _ z24 ?_;intro g2 w2 hg2 hb2 hgr;have hB:=(Below.refl _ w).grown hgr (Nat.le_refl _) (by simp);replace hbg:=hbg.grownN hgr;clear hgr;try go_frame;try go_frame)
   |(refine zaK rfl (some 3) rfl _ rfl _ z35 ?_;intro g3 w3 hg3 hb3 hgr;have hg3g:g<g3:=Nat.lt_of_lt_of_le hbg.lt hg3;have h23:g2<g3:=Nat.lt_of_lt_of_le hb2.lt hg3;have h3B:w.heap.size≤g3:=Nat.le_trans hB.size hg3;replace hB:=hB.grown hgr hB.size (by simp);replace hb2:=hb2.grownN hgr;replace hbg:=hbg.grownN hgr;clear hgr;try go_frame;try go_frame))
  have hrd: ∀j v,(ints .u8 rest)[j]? =some v→w3.drew.cell? ((⟨g,8,none⟩:Addr).add j)=some v:=fun j v hv=>by
   rw[Addr.add_mid]
   refine(hbg.cell (8+j)).trans (HC_blk sum blk n HS8.out j v ?_)
   rw[←HTK.out]at hv
   simp only[ints,List.map_take,List.getElem?_take]at hv
   split at hv
   ·exact hv
   ·cases hv
  go_region_law(first
   |(refine zdk (w:=w3.drew) rfl (.tmp 10) (.tmp 16) _ _ rfl 5 Tryz.underlying46 s5 (some ⟨g3,0,none⟩) (some ⟨g,8,none⟩) 64 64 r 64 (by simp[Act.eval,Act.put]) (by simp[Act.eval,Act.put]) g3 0 _ _ hb3.drew (ints .u8 rest) r (by rw[length_ints,HRL.out]) (Nat.min_eq_left (by omega)).symm (fun _=>⟨rfl,_,rfl,hrd⟩) (by rw[length_ints,length_ints,HRL.out,List.length_replicate];omega) (zal _ _) ?_;intro w4 hb4 hgr4)
   |(go_simp;go_at_call 178;refine(hwait g w3.drew hbg.drew).mono ?_;rintro e w' ⟨rfl,rfl⟩))
  have hgr4':w3.grownBy w4 (some g3):=(zaJ (zaY w3 _)).trans hgr4
  have hB4:=hB.grown hgr4' hB.size (by intro k hk;injection hk with hk;omega)
  have hb2':=hb2.grown hgr4' (by intro h;injection h with h;omega)
  have hbg':=hbg.grown hgr4' (by intro h;injection h with h;omega)
  have hT4:Hid (Tabs w4):=Lib.hid (HT.out.ofBelow hB4)
  clear hgr4 hgr4' hB hb2 hbg hb3 hrd
  go_wp2_with(first
   |(refine zaf rfl none rfl _ (.tmp 19) (Operand.const (.int .u8 128)) rfl g3 r (.int .u8 128) rfl rfl rfl _ _ hb4 (by rw[length_splice _ _ _ (by rw[length_ints,length_ints,HRL.out,List.length_replicate];omega),length_ints,List.length_replicate];omega) s5 ?_;intro w5 hb5 hgr;have hp5:Blk w5 g3 179 (ints .u8 (padB rest)):=(by rw[←pad_eq rest (by rw[HRL.out];omega),HRL.out];exact hb5);have hB5:=hB4.grown hgr hB4.size (by intro k hk;injection hk with hk;omega);have h25:=hb2'.grown hgr (by intro h;injection h with h;omega);have hg5:=hbg'.grown hgr (by intro h;injection h with h;omega);clear hgr hb5;try go_frame;try go_frame)
   |(go_at_call 180;refine(hsofar g w5 hg5 (HT.out.ofBelow hB5)).mono ?_;rintro e w6 ⟨rfl,hbw⟩;have hB6:=hB5.trans (hbw.mono hB5.size);have h26:=h25.below hbw h25.lt;have hg6:=hg5.below hbw hg5.lt;have hp6:=hp5.below hbw hp5.lt;clear hbw;try go_frame)
   |(refine zaK rfl (some 5) rfl _ rfl _ z34 ?_;intro g7 w7 hg7 hb7 hgr;have h37:g3<g7:=Nat.lt_of_lt_of_le hp6.lt hg7;have hg7g:g<g7:=Nat.lt_of_lt_of_le hg6.lt hg7;have h7B:w.heap.size≤g7:=Nat.le_trans hB6.size hg7;have hB7:=hB6.grown hgr hB6.size (by simp);have h27:=h26.grownN hgr;have hgg7:=hg6.grownN hgr;have hp7:=hp6.grownN hgr;clear hgr;try go_frame;try go_frame)
   |(refine zac rfl none rfl _ (.tmp 5) (.tmp 21) rfl g7 0 (ints .u32 st) rfl rfl _ _ hb7 (by simp[HST8.out]) (by rw[s34,length_ints,HST8.out]) (zal _ _) ?_;intro w8 hb8 hgr;rw[zah _ _ (by simp[HST8.out])]at hb8;have hB8:=hB7.grown hgr hB7.size (by intro k hk;injection hk with hk;omega);have h28:=h27.grown hgr (by intro h;injection h with h;omega);have hg8:=hgg7.grown hgr (by intro h;injection h with h;omega);have hp8:=hp7.grown hgr (by intro h;injection h with h;omega);clear hgr;try go_frame;try go_frame))
  try go_frame
  have hsz:=(hg8.cell 72).trans (zgs sum blk n HS8.out HB64.out)
  have hL64:(padB rest).length=64:=by first|(exact zbt (by rw[HRL.out];omega))|simp
  have hLB:Bytes (padB rest):=by first|exact padB_bd HRB.out|exact Bytes.rep 64
  have hput:=fun W (h:Blk W g3 179 (ints .u8 (padB rest)))=>zia g3 (padB rest) ((n:Int)*8) W hL64 (by omega) (by omega) h
  have hS8:(st).length=8:=by first|exact HST8.out|(rw[zbc,HST8.out])
  have hSW:Words (st):=by first|exact HSTW.out|(exact fun i=>zfJ _ _ HSTW.out i)
  have hPB:Bytes (putC (padB rest) ((n:Int)*8) 8):=fun i=>putC_bd _ _ hLB 8 i
  obtain⟨S,hSd⟩: ∃S,S=st:=⟨_,rfl⟩
  obtain⟨L,hLd⟩: ∃L,L=putC (padB rest) ((n:Int)*8) 8:=⟨_,rfl⟩
  have hL8:L.length=64:=by rw[hLd,length_putC,hL64]
  rw[←hSd]at hS8 hSW hb8
  rw[←hLd]at hPB hput
  have HSD:=Lib.hid hSd
  have HLD:=Lib.hid hLd
  have HS8':=Lib.hid hS8
  have HSW':=Lib.hid hSW
  have HPB:=Lib.hid hPB
  have HL8:=Lib.hid hL8
  clear hSd hLd hS8 hSW hPB hL64 hLB hL8
  have hwr:IntKind.u64.wrap ((n:Int)*8)=(n:Int)*8:=by rw[IntKind.wrap_u64];omega
  go_region_law(go_simp;go_at_call 181;((with_reducible refine(hput _ hp8.drew).mono ?_);rintro e wp ⟨rfl,hpp,hgp⟩))
  clear hwr
  have hgp':Go.World.grownBy w8 wp (some g3):=(zaJ (zaY w8 _)).trans hgp
  have hBp:=hB8.grown hgp' hB8.size (by intro k hk;injection hk with hk;omega)
  have h2p:=h28.grown hgp' (by intro h;injection h with h;omega)
  have hbp:=hb8.grown hgp' (by intro h;injection h with h;omega)
  clear hgp hgp' hsz hput hB8 h28 hg8 hb8 hp8
  have hmix:=znK S L wp HS8'.out HSW'.out HL8.out HPB.out (HT.out.ofBelow hBp).1
  have hM8:Hid ((mixL S L).length=8):=Lib.hid (by rw[zbc,HS8'.out])
  have hMW:Hid (Words (mixL S L)):=Lib.hid (fun i=>zfJ _ _ HSW'.out i)
  have hfin:Hid (∀_:Unit,zbX bs=sbL (mixL S L) 8):=Lib.hid (fun _=>by rw[hcut.out (),HSD.out,HLD.out];first|rw[if_pos hlow]|rw[if_neg hlow])
  obtain⟨M,hMd⟩: ∃M,M=mixL S L:=⟨_,rfl⟩
  rw[←hMd]at hmix hM8 hMW hfin
  clear hMd
  go_wp2_with(first
   |(refine zae rfl (some 39) rfl _ (.tmp 5) rfl _ 0 rfl _ _ hbp (ints .u32 S) (by simp) _ Tryz.underlying219 rfl (by rw[s34,length_ints,HS8'.out]) ?_;try go_frame;try go_frame)
   |(refine zae rfl (some 40) rfl _ (.tmp 3) rfl _ 0 rfl _ _ hpp (ints .u8 L) (by simp) _ Tryz.underlying179 rfl (by rw[s35,length_ints,HL8.out]) ?_;try go_frame;try go_frame)
   |(go_at_call 179;refine hmix.mono ?_;rintro e wq ⟨rfl,hbw⟩;have hBq:=hBp.trans (hbw.mono hBp.size);have h2q:=h2p.below hbw h2p.lt;have hbq:=hbp.below hbw hbp.lt;clear hbw hmix;try go_frame)
   |(refine zac rfl none rfl _ (.tmp 5) (.tmp 41) rfl g7 0 (ints .u32 M) rfl rfl _ _ hbq (by simp[HS8'.out,hM8.out]) (by rw[s34,length_ints,hM8.out]) (zal _ _) ?_;intro wr hbr hgr;rw[zah _ _ (by simp[HS8'.out,hM8.out])]at hbr;have hBr:=hBq.grown hgr hBq.size (by intro k hk;injection hk with hk;omega);have h2r:=h2q.grown hgr (by intro h;injection h with h;omega);clear hgr;try go_frame;try go_frame)
   |(refine zae rfl (some 42) rfl _ (.tmp 5) rfl _ 0 rfl _ _ hbr (ints .u32 M) (by simp) _ Tryz.underlying219 rfl (by rw[s34,length_ints,hM8.out]) ?_;try go_frame;try go_frame)
   |(go_at_call 182;refine(ziW M wr hM8.out hMW.out).mono ?_;rintro e ws ⟨rfl,hbw⟩;have hBs:=hBr.trans (hbw.mono hBr.size);have h2s:=h2r.below hbw h2r.lt;clear hbw;try go_frame)
   |(refine zac rfl none rfl _ (.tmp 2) (.tmp 43) rfl g2 0 (ints .u8 (sbL M 8)) rfl rfl _ _ h2s (by simp) (by rw[s24,length_ints,length_sbL]) (zal _ _) ?_;intro wt h2t hgr;rw[zah _ _ (by simp)]at h2t;have hBt:=hBs.grown hgr hBs.size (by intro k hk;injection hk with hk;omega);clear hgr;try go_frame;try go_frame))
  exact bodyPost_ret (v:= .agg (ints .u8 (sbL M 8)).toArray) (zbb Tryz.results155 _ _ g2 _ _ _ rfl h2t Tryz.underlying82 rfl (by rw[s24,length_ints,length_sbL])) rfl ⟨by rw[←hfin.out ()],hBt⟩
end Go.Proofs.YtceddodfddlncaaGreatDoor
