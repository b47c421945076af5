
import Derived.Deep.Cut
import Derived.Deep.CutBlock
import Derived.Deep.CutRange
import Derived.Test.YtjfgmgkhinehaaaGreatDoorCq53
set_option maxRecDepth 100000
set_option maxHeartbeats 16000000
set_option linter.all false
namespace Go.Proofs.YtjfgmgkhinehaaaGreatDoor
open Go Go.RowKit
theorem zgg: ∀l:List UInt8,Op.bytesLess l l=false
 |[]=>rfl
 |a::r=>by rw[Op.bytesLess,zgg r];simp
theorem putKL_drop {K:List ByteArray} {L:List J} {j:Nat} (t:ByteArray) (x:J) (d:Bool) (h1:j<K.length) (h2:j<L.length):
  zaw t x d (K.drop j) (L.drop j)=((if d=false∧Op.bytesLess K[j].toList t.toList=false then[t]else[])++(if K[j]=t then[]else[K[j]])++(zaw t x (d|| !Op.bytesLess K[j].toList t.toList) (K.drop (j+1)) (L.drop (j+1))).1,
   (if d=false∧Op.bytesLess K[j].toList t.toList=false then[x]else[])++(if K[j]=t then[]else[L[j]])++(zaw t x (d|| !Op.bytesLess K[j].toList t.toList) (K.drop (j+1)) (L.drop (j+1))).2):=by
 rw[List.drop_eq_getElem_cons h1,List.drop_eq_getElem_cons h2,zaw]
 simp only[List.tail_cons,List.headD_cons]
 split<;>split<;>rfl
def PutTells (W:World) (S:Nat→Prop) (t:ByteArray) (x:J) (K:List ByteArray) (L:List J) (e:Ending) (w':World):Prop:=
 ∃v,e= .returned v∧RepS w' (fun b=>S b∨W.heap.size≤b) (.mk 5 0 ⟨#[]⟩ (zaw t x false K L).2 (zaw t x false K L).1) v∧Below W.heap.size W w'
def Key (G:Prop):Prop:=G
theorem Key.out {G:Prop} (h:Key G):G:=h
theorem once {G R:Prop} (h:Key G→R) (g:G):R:=h g
theorem refPut_obj (kd n:Int) (s:ByteArray) (K:List ByteArray) (L:List J) (t:ByteArray) (x:J) (va vx:Value) (W:World) (S:Nat→Prop) (hS: ∀b,S b→b<W.heap.size) (ha:RepS W S (.mk kd n s L K) va) (hx:RepS W S x vx) (hKL:K.length=L.length) (hq:K.length≤1000000) (ht:t.size≤9223372036854775807):
  Calls Tryz.prog 11 #[va,.string t,vx] W (PutTells W S t x K L):=by
 obtain⟨vk,A,c,rfl,hs,⟨K1,d1,rfl,hkl,hkc⟩,hl,hc⟩:=ha.open
 obtain⟨vk',A',c',rfl,hs',⟨K2,d2,rfl,hkl',hkc'⟩,hl',hc'⟩:=hx.open
 have HX:=Lib.hid hx
 have HKC:Hid (K≠[]→ ∃b o,K1=some ⟨b,o,none⟩∧S b∧b<W.heap.size∧ ∀i,i<K.length→ ∃t,K[i]? =some t∧t.size≤9223372036854775807∧W.cell? ⟨b,o+i,none⟩=some (.string t)):=Lib.hid hkc
 have HC:Hid (L≠[]→ ∃b o,A=some ⟨b,o,none⟩∧S b∧b<W.heap.size∧RepCS W S b o L):=Lib.hid hc
 change Calls _ _ #[.agg #[.int .i64 kd,.int .i64 n,.string s,.slice A L.length c,.slice K1 K.length d1],_,_] W _
 clear hkc hc
 obtain⟨q,hqq⟩: ∃q,q=K.length:=⟨_,rfl⟩
 obtain⟨x0,hx0⟩: ∃a,a=x.kind:=⟨_,rfl⟩
 obtain⟨x1,hx1⟩: ∃a,a=x.n:=⟨_,rfl⟩
 obtain⟨x2,hx2⟩: ∃a,a=x.s:=⟨_,rfl⟩
 obtain⟨x3,hx3⟩: ∃a,a=x.l.length:=⟨_,rfl⟩
 obtain⟨x4,hx4⟩: ∃a,a=x.k.length:=⟨_,rfl⟩
 rw[←hx0,←hx1,←hx2,←hx3,←hx4]at HX⊢
 rw[←hKL]
 rw[←hqq]at hq⊢
 have HQ:=Lib.hid hqq
 have HQL:Hid (q=L.length):=Lib.hid (hqq.trans hKL)
 have HS:=Lib.hid hS
 have HTS:=Lib.hid ht
 clear ha hx hs hkl hl hs' hkl' hkc' hl' hc' hx0 hx1 hx2 hx3 hx4 hqq hKL hS ht
 obtain⟨iJ,hJ,hJ0,hJ1,hJ2⟩:=info_parts infoJ
 obtain⟨iS,hSS,hS0,hS1,hS2⟩:=info_parts infoS
 go_enter Tryz.func11,Tryz.ntmps11
 go_wp2
 have HI:=Lib.hid (putInv_start W [.int .i64 kd,.int .i64 n,.string s,.slice A q c,.slice K1 q d1] [.int .i64 x0,.int .i64 x1,.string x2,.slice A' x3 c',.slice K2 x4 d2] S)
 obtain⟨c3,hc3⟩: ∃x:List Value,x=[.int .i64 kd,.int .i64 n,.string s,.slice A q c,.slice K1 q d1]:=⟨_,rfl⟩
 obtain⟨c5,hc5⟩: ∃x:List Value,x=[.int .i64 x0,.int .i64 x1,.string x2,.slice A' x3 c',.slice K2 x4 d2]:=⟨_,rfl⟩
 have HC3:=Lib.hid hc3
 have HC5:=Lib.hid hc5
 clear hc3 hc5
 go_loopw[8,9] (fun b i wr=> ∃(j:Nat) (d:Bool) (ks:List ByteArray) (vs:List J) (xs:List Value) (vL vK:Value),b= .bool d∧i= .int .i64 (j:Int)∧j≤q∧ks.length≤j+1∧vs.length≤j+1∧ks.length=vs.length∧(d=false→ks.length≤j)∧
   (ks++(zaw t x d (K.drop j) (L.drop j)).1=(zaw t x false K L).1∧vs++(zaw t x d (K.drop j) (L.drop j)).2=(zaw t x false K L).2)∧(∀u∈ks,u.size≤9223372036854775807)∧PutInv W wr c3 c5 S vs xs vL ks vK) (fun _ i _=>q-(intOf i).toNat)
 case atStart=>exact⟨0,false,[],[],[],.slice none 0 0,.slice none 0 0,rfl,rfl,by omega,by simp,by simp,rfl,fun _=>by simp,⟨rfl,rfl⟩,by simp,by rw[HC3.out,HC5.out];exact HI.out⟩
 case round=>
  obtain⟨j,d,ks,vs,xs,vL,vK,rfl,rfl,hj,hk1,hv1,hkv,hdf,hput,hus,hI⟩:=hrel
  have HPUT:=Lib.hid hput
  have HUS:=Lib.hid hus
  have HI2:=Lib.hid hI
  have HLEN:=Lib.hid hkv
  have HDF:=Lib.hid hdf
  rw[HC3.out,HC5.out]at hI
  have HI3:=Lib.hid hI
  obtain⟨e33,e34,e50,e51,e52,e53,e54,e73,e74,f73,f74⟩:=hI.cells
  obtain⟨⟨h3,h5,h6,h7⟩,⟨hL,hf⟩,hK,hb,hsz⟩:=hI
  have H6:=Lib.hid h6
  have H7:=Lib.hid h7
  obtain⟨nk,hnk⟩: ∃n,n=ks.length:=⟨_,rfl⟩
  obtain⟨nv,hnv⟩: ∃n,n=vs.length:=⟨_,rfl⟩
  rw[←hnk]at hK hk1
  rw[←hnv]at hL hv1
  have HKN:=Lib.hid hnk
  have HVN:=Lib.hid hnv
  have HL:=Lib.hid hL
  have HF:=Lib.hid hf
  have HK:=Lib.hid hK
  clear hnk hnv
  have HB:=Lib.hid hb
  clear h3 h5 h6 h7 hL hf hK hb hput hus hkv hdf HI
  by_cases hlt:j<q
  ·have hjK:j<K.length:=by rw[←HQ.out];exact hlt
   have hjL:j<L.length:=by rw[←HQL.out];exact hlt
   obtain⟨b1,o1,rfl,hS1',hb1,hcs⟩:=HKC.out (fun e=>by rw[e]at hjK;exact absurd hjK (Nat.not_lt_zero _))
   obtain⟨u,hu0,husz,hu⟩:=hcs j hjK
   rw[List.getElem?_eq_getElem hjK]at hu0
   replace hu0:=Option.some.inj hu0
   have HU:=Lib.hid hu
   have hu':=(HB.out.cell (p:=⟨b1,o1+j,none⟩) hb1).trans hu
   have HST:=Lib.hid (putKL_drop t x d hjK hjL)
   rw[hu0]at HST
   have HUSZ:=Lib.hid husz
   have HUM:Hid (u∈K):=Lib.hid (by rw[←hu0];exact List.getElem_mem hjK)
   obtain⟨b2,o2,rfl,hS2',hb2,hrc⟩:=HC.out (fun e=>by rw[e]at hjL;exact absurd hjL (Nat.not_lt_zero _))
   obtain⟨y,hy⟩: ∃y,y=L[j]'hjL:=⟨_,rfl⟩
   obtain⟨vy,hy1,hy2⟩:=hrc.at j hjL
   rw[←hy]at hy1 HST
   obtain⟨vk3,A3,c3',rfl,_,⟨K3,d3,rfl,_,_⟩,_,_⟩:=hy1.open
   obtain⟨y0,hy0'⟩: ∃a,a=y.kind:=⟨_,rfl⟩
   obtain⟨y1,hy1'⟩: ∃a,a=y.n:=⟨_,rfl⟩
   obtain⟨y2,hy2'⟩: ∃a,a=y.s:=⟨_,rfl⟩
   obtain⟨y3,hy3'⟩: ∃a,a=y.l.length:=⟨_,rfl⟩
   obtain⟨y4,hy4'⟩: ∃a,a=y.k.length:=⟨_,rfl⟩
   rw[←hy0',←hy1',←hy2',←hy3',←hy4']at hy1 hy2
   have HFIVE:=Lib.hid hy2
   have HS2:=Lib.hid hS2'
   obtain⟨t0,t1,t2,t3,t4,et,z0,z1,z2,z3,z4⟩:=hy2.keeps hS2' hb2 (Keeps.below (S:=S) HB.out (fun b h _=>HS.out b h))
   simp only[Value.agg.injEq,Array.mk.injEq,List.cons.injEq,and_true]at et
   obtain⟨rfl,rfl,rfl,rfl,rfl⟩:=et
   clear hy0' hy1' hy2' hy3' hy4'
   have HY:=Lib.hid hy1
   have hB1:b1<W.heap.size:=hb1
   have i0:(j:Int)<(q:Int):=by omega
   have i1:(0:Int)≤(j:Int):=by omega
   have HJK:=Lib.hid hjK
   clear hcs husz hrc hy1 hy2 hy hu hu0 hjK hjL hS1' hS2'
   by_cases hut:u=t
   ·have b4:=beq_str hut
    have c4:(u.toList !=t.toList)=false:=by rw[bne,b4];rfl
    cases d with
    |true=>
     have HST2:Hid (zaw t x true (K.drop j) (L.drop j)=zaw t x true (K.drop (j+1)) (L.drop (j+1))):=Lib.hid (by
      rw[HST.out,if_pos hut,if_pos hut];simp)
     clear hut HST
     go_wp2_with fail
     go_roundw
     case rel=>exact⟨j+1,true,ks,vs,xs,_,_,rfl,by go_num,by omega,by(try simp);have:=HKN.out;omega,by(try simp);have:=HVN.out;omega,by(try simp);have:=HLEN.out;omega,(fun h=>by cases h),⟨by rw[←HPUT.out.1,HST2.out];try simp,by rw[←HPUT.out.2,HST2.out];try simp⟩,by
      intro v hv
      try simp only[List.mem_append,List.mem_singleton,List.mem_cons,List.not_mem_nil,or_false]at hv
      exact HUS.out v hv,by rw[HC3.out,HC5.out];exact HI3.out⟩
     case measure=>simp[intOf];omega
    |false=>
     have hless:Op.bytesLess u.toList t.toList=false:=by rw[hut];exact zgg _
     have HST2:Hid (zaw t x false (K.drop j) (L.drop j)=(t::(zaw t x true (K.drop (j+1)) (L.drop (j+1))).1,x::(zaw t x true (K.drop (j+1)) (L.drop (j+1))).2)):=Lib.hid (by
      rw[HST.out,if_pos hut,if_pos hut,hless];simp)
     clear hut HST
     go_wp2_with(first
      |(at_builtin;refine wpList_append_lies _ rfl (.tmp 30) (.tmp 32) 22 rfl (W.heap.size+4) 9 iS (.string ⟨#[]⟩) 1 16 Tryz.underlying22 hSS hS0 hS1 hS2 rfl (by decide) vK nk _ rfl (HK.out.alloc _) ⟨wr.heap.size,0,none⟩ 1 1 [.string t] rfl rfl ?ua1 ?ua2 (by decide) ?ua3 ?ua4 ?ua5 _ rfl ?_))
     case ua2=>first|rfl|(intro v hv;rw[List.mem_singleton.1 hv];rfl)
     case ua3=>unfold maxLen;omega
     case ua4=>omega
     case ua5=>first|omega|(simp;omega)
     intro gi capi w1 hown1 hgrow hat hlt1
     have HA:=Lib.hid (HI3.out.addK HS.out (World.grownBy_alloc wr _ none) hgrow (by rw[HKN.out]) hown1)
     obtain⟨k33,k34,k50,k51,k52,k53,k54,k73,k74,fk73,fk74⟩:=(HI3.out.cells.grown (World.grownBy_alloc wr _ none) (by intro k hk;cases hk)).grown hgrow (fun k hk=>(HK.out.lt k hk).1)
     have HLI:=Lib.hid (zel HA.out.2.1.1 HVN.out)
     have hz1:=HA.out.2.2.2.2
     clear hown1 hgrow hat
     go_wp2_with(first
      |(at_builtin;refine wpList_append_lies _ rfl (.tmp 36) (.tmp 38) 23 rfl (W.heap.size+4) 27 iJ (.agg #[.int .i64 0,.int .i64 0,.string ⟨#[]⟩,.slice none 0 0,.slice none 0 0]) 5 80 Tryz.underlying23 hJ hJ0 hJ1 hJ2 rfl (by decide) vL nv _ rfl (HLI.out.alloc _) ⟨w1.heap.size,0,none⟩ 1 1 [.int .i64 x0,.int .i64 x1,.string x2,.slice A' x3 c',.slice K2 x4 d2] rfl rfl ?ub1 ?ub2 (by decide) ?ub3 ?ub4 ?ub5 _ rfl ?_))
     case ub1=>exact World.news_of_block (cs:= #[.int .i64 x0,.int .i64 x1,.string x2,.slice A' x3 c',.slice K2 x4 d2]) (zgy (by simp) [.int .i64 x0,.int .i64 x1,.string x2,.slice A' x3 c',.slice K2 x4 d2] 27)
     case ub2=>intro v hv;simp at hv;rcases hv with rfl|rfl|rfl|rfl|rfl<;>rfl
     case ub3=>unfold maxLen;omega
     case ub4=>omega
     case ub5=>simp;simp at hz1;omega
     intro gj capj w2 hown2 hgrow2 hat2 hlt2
     have HAI:=Lib.hid (HA.out.addL HS.out (World.grownBy_alloc _ _ none) hgrow2 (by rw[HVN.out]) hown2 HX.out)
     obtain⟨m33,m34,m50,m51,m52,m53,m54,m73,m74,fm73,fm74⟩:=(HA.out.cells.grown (World.grownBy_alloc _ _ none) (by intro k hk;cases hk)).grown hgrow2 (fun k hk=>(HLI.out.lt k hk).1)
     clear hown2 hgrow2 hat2 k33 k34 k50 k51 k52 k53 k54 k73 k74 fk73 fk74 hz1 hlt1
     go_upto_region 9 with(fail)
     obtain⟨wi,hwi⟩: ∃z,z=w2.setCell ⟨W.heap.size+1+1+1,3,none⟩ (.slice (some ⟨gj,0,none⟩) (nv+1) capj):=⟨_,rfl⟩
     have HI5:Hid (PutInv W wi [.int .i64 kd,.int .i64 n,.string s,.slice (some ⟨b2,o2,none⟩) q c,.slice (some ⟨b1,o1,none⟩) q d1] [.int .i64 x0,.int .i64 x1,.string x2,.slice A' x3 c',.slice K2 x4 d2] S (vs++[x]) (xs++[.int .i64 x0,.int .i64 x1,.string x2,.slice A' x3 c',.slice K2 x4 d2]) (.slice (some ⟨gj,0,none⟩) (nv+1) capj) (ks++[t]) (.slice (some ⟨gi,0,none⟩) (nk+1) capi)):=Lib.hid (by rw[hwi];exact HAI.out)
     rw[←hwi]
     obtain⟨i33,i34,i50,i51,i52,i53,i54,i73,i74,fi73,fi74⟩:=HI5.out.cells
     have hu2:=(HI5.out.2.2.2.1.cell (p:=⟨b1,o1+j,none⟩) hb1).trans HU.out
     have HKI:Hid (wi.ownsRow (W.heap.size+4) 9 1 (.slice (some ⟨gi,0,none⟩) (nk+1) capi) (nk+1) ((ks++[t]).map Value.string)):=Lib.hid (zel HI5.out.2.2.1 (by rw[List.length_append,HKN.out];rfl))
     have HLJ:Hid (wi.ownsRow (W.heap.size+4) 27 5 (.slice (some ⟨gj,0,none⟩) (nv+1) capj) (nv+1) (xs++[.int .i64 x0,.int .i64 x1,.string x2,.slice A' x3 c',.slice K2 x4 d2])):=Lib.hid (zel HI5.out.2.1.1 (by rw[List.length_append,HVN.out];rfl))
     have hzi:=HI5.out.2.2.2.2
     clear hwi m33 m34 m50 m51 m52 m53 m54 m73 m74 fm73 fm74 e33 e34 e50 e51 e52 e53 e54 e73 e74 f73 f74 hu' hlt2
     go_wp2_with fail
     go_roundw
     case rel=>exact⟨j+1,true,ks++[t],vs++[x],xs++[.int .i64 x0,.int .i64 x1,.string x2,.slice A' x3 c',.slice K2 x4 d2],_,_,rfl,by go_num,by omega,by(try simp);have:=HKN.out;omega,by(try simp);have:=HVN.out;omega,by(try simp);have:=HLEN.out;omega,(fun h=>by cases h),⟨by rw[←HPUT.out.1,HST2.out];try simp,by rw[←HPUT.out.2,HST2.out];try simp⟩,by
      intro v hv
      try simp only[List.mem_append,List.mem_singleton,List.mem_cons,List.not_mem_nil,or_false]at hv
      rcases hv with hv|rfl
      ·exact HUS.out v hv
      ·exact HTS.out,by rw[HC3.out,HC5.out];exact HI5.out⟩
     case measure=>simp[intOf];omega
   ·have b4:=zig hut
    have c4:(u.toList !=t.toList)=true:=by rw[bne,b4];rfl
    cases d with
    |true=>
     have HST2:Hid (zaw t x true (K.drop j) (L.drop j)=(u::(zaw t x true (K.drop (j+1)) (L.drop (j+1))).1,y::(zaw t x true (K.drop (j+1)) (L.drop (j+1))).2)):=Lib.hid (by
      rw[HST.out,if_neg hut,if_neg hut];simp)
     clear hut HST
     go_wp2_with fail
     obtain⟨a33,a34,a50,a51,a52,a53,a54,a73,a74,fa73,fa74⟩:=HI3.out.cells.grown (zaJ (World.grownBy_alloc wr (.cells #[.string u] 9) none)) (by intro k hk;cases hk)
     apply once
     ·intro key
      go_region_law((refine step_append_lies _ (by rfl) _ _ _ (by rfl) (W.heap.size+4) 9 iS (.string ⟨#[]⟩) 1 16 Tryz.underlying22 hSS hS0 hS1 hS2 rfl (by omega) vK nk _ (by rfl) ((HK.out.alloc _).drew) ⟨wr.heap.size,0,none⟩ 1 1 [.string u] (by rfl) (by rfl) (World.news_of_block (cs:= #[.string u]) (t:=9) (fr:=(0,0)) (heap_alloc_new wr _)) (by simp[Value.oneCell']) (by omega) (by unfold maxLen;omega) (by omega) (by simp;omega) (wr.heap.size+1) (by simp) ?_;intro ga capa w1 hown1 hgrow hat hlt2;have HA1:=Lib.hid (HI3.out.addK HS.out (zaJ (World.grownBy_alloc wr (.cells #[.string u] 9) none)) hgrow (by rw[HKN.out]) hown1);obtain⟨k33,k34,k50,k51,k52,k53,k54,k73,k74,fk73,fk74⟩:=(HI3.out.cells.grown (zaJ (World.grownBy_alloc wr (.cells #[.string u] 9) none)) (by intro k hk;cases hk)).grown hgrow (fun k hk=>(HK.out.lt k hk).1);clear hown1 hgrow hat))
      all_goals(clear k33 k34 k50 k51 k52 k53 k54 k73 k74 fk73 fk74 hlt2;revert HA1;revert w1;revert capa;revert ga;exact key.out)
     clear a33 a34 a50 a51 a52 a53 a54 a73 a74 fa73 fa74
     intro ga capa w1 HA1
     obtain⟨wa2,hw2⟩: ∃z,z=w1.setCell ⟨W.heap.size+1+1+1,4,none⟩ (.slice (some ⟨ga,0,none⟩) (nk+1) capa):=⟨_,rfl⟩
     have HA2:Hid (PutInv W wa2 _ _ S vs xs vL (ks++[u]) (.slice (some ⟨ga,0,none⟩) (nk+1) capa)):=Lib.hid (by rw[hw2];exact HA1.out)
     rw[←hw2]
     obtain⟨g33,g34,g50,g51,g52,g53,g54,g73,g74,fg73,fg74⟩:=HA2.out.cells
     obtain⟨t0,t1,t2,t3,t4,et,r0,r1,r2,r3,r4⟩:=HFIVE.out.keeps HS2.out hb2 (Keeps.below (S:=S) HA2.out.2.2.2.1 (fun b h _=>HS.out b h))
     simp only[Value.agg.injEq,Array.mk.injEq,List.cons.injEq,and_true]at et
     obtain⟨rfl,rfl,rfl,rfl,rfl⟩:=et
     clear hw2 HA1 e33 e34 e50 e51 e52 e53 e54 e73 e74 f73 f74 z0 z1 z2 z3 z4 hu'
     have HL2:Hid (wa2.ownsRow (W.heap.size+4) 27 5 vL nv xs):=Lib.hid (zel HA2.out.2.1.1 HVN.out)
     have hz2:=HA2.out.2.2.2.2
     go_wp2_with fail
     obtain⟨a33,a34,a50,a51,a52,a53,a54,a73,a74,fa73,fa74⟩:=HA2.out.cells.grown (zaJ (World.grownBy_alloc wa2 (.cells #[.int .i64 y0,.int .i64 y1,.string y2,.slice A3 y3 c3',.slice K3 y4 d3] 27) none)) (by intro k hk;cases hk)
     obtain⟨q0,q1,q2,q3,q4⟩:(wa2.alloc (.cells #[.int .i64 y0,.int .i64 y1,.string y2,.slice A3 y3 c3',.slice K3 y4 d3] 27)).drew.cell? ⟨b2,o2+j*5,none⟩=some (.int .i64 y0)∧(wa2.alloc (.cells #[.int .i64 y0,.int .i64 y1,.string y2,.slice A3 y3 c3',.slice K3 y4 d3] 27)).drew.cell? ⟨b2,o2+j*5+1,none⟩=some (.int .i64 y1)∧(wa2.alloc (.cells #[.int .i64 y0,.int .i64 y1,.string y2,.slice A3 y3 c3',.slice K3 y4 d3] 27)).drew.cell? ⟨b2,o2+j*5+2,none⟩=some (.string y2)∧(wa2.alloc (.cells #[.int .i64 y0,.int .i64 y1,.string y2,.slice A3 y3 c3',.slice K3 y4 d3] 27)).drew.cell? ⟨b2,o2+j*5+3,none⟩=some (.slice A3 y3 c3')∧(wa2.alloc (.cells #[.int .i64 y0,.int .i64 y1,.string y2,.slice A3 y3 c3',.slice K3 y4 d3] 27)).drew.cell? ⟨b2,o2+j*5+4,none⟩=some (.slice K3 y4 d3):=
      ⟨(zaJ (World.grownBy_alloc wa2 (.cells #[.int .i64 y0,.int .i64 y1,.string y2,.slice A3 y3 c3',.slice K3 y4 d3] 27) none)).cell r0 (by simp),(zaJ (World.grownBy_alloc wa2 (.cells #[.int .i64 y0,.int .i64 y1,.string y2,.slice A3 y3 c3',.slice K3 y4 d3] 27) none)).cell r1 (by simp),(zaJ (World.grownBy_alloc wa2 (.cells #[.int .i64 y0,.int .i64 y1,.string y2,.slice A3 y3 c3',.slice K3 y4 d3] 27) none)).cell r2 (by simp),(zaJ (World.grownBy_alloc wa2 (.cells #[.int .i64 y0,.int .i64 y1,.string y2,.slice A3 y3 c3',.slice K3 y4 d3] 27) none)).cell r3 (by simp),(zaJ (World.grownBy_alloc wa2 (.cells #[.int .i64 y0,.int .i64 y1,.string y2,.slice A3 y3 c3',.slice K3 y4 d3] 27) none)).cell r4 (by simp)⟩
     apply once
     ·intro key
      go_region_law((refine step_append_lies _ (by rfl) _ _ _ (by rfl) (W.heap.size+4) 27 iJ (.agg #[.int .i64 0,.int .i64 0,.string ⟨#[]⟩,.slice none 0 0,.slice none 0 0]) 5 80 Tryz.underlying23 hJ hJ0 hJ1 hJ2 rfl (by omega) vL nv _ (by rfl) ((HL2.out.alloc _).drew) ⟨wa2.heap.size,0,none⟩ 1 1 [.int .i64 y0,.int .i64 y1,.string y2,.slice A3 y3 c3',.slice K3 y4 d3] (by rfl) (by rfl) (World.news_of_block (cs:= #[.int .i64 y0,.int .i64 y1,.string y2,.slice A3 y3 c3',.slice K3 y4 d3]) (t:=27) (fr:=(0,0)) (heap_alloc_new wa2 _)) (by simp[Value.oneCell']) (by omega) (by unfold maxLen;omega) (by omega) (by simp;omega) (wa2.heap.size+1) (by simp) ?_;intro ga3 capa3 w3 hown1 hgrow hat hlt2;have HA3:=Lib.hid (HA2.out.addL HS.out (zaJ (World.grownBy_alloc wa2 (.cells #[.int .i64 y0,.int .i64 y1,.string y2,.slice A3 y3 c3',.slice K3 y4 d3] 27) none)) hgrow (by rw[HVN.out]) hown1 HY.out);obtain⟨k33,k34,k50,k51,k52,k53,k54,k73,k74,fk73,fk74⟩:=(HA2.out.cells.grown (zaJ (World.grownBy_alloc wa2 (.cells #[.int .i64 y0,.int .i64 y1,.string y2,.slice A3 y3 c3',.slice K3 y4 d3] 27) none)) (by intro k hk;cases hk)).grown hgrow (fun k hk=>(HL2.out.lt k hk).1);clear hown1 hgrow hat))
      all_goals(clear k33 k34 k50 k51 k52 k53 k54 k73 k74 fk73 fk74 hlt2;revert HA3;revert w3;revert capa3;revert ga3;exact key.out)
     clear a33 a34 a50 a51 a52 a53 a54 a73 a74 fa73 fa74 g33 g34 g50 g51 g52 g53 g54 g73 g74 fg73 fg74 q0 q1 q2 q3 q4 r0 r1 r2 r3 r4 hz2
     intro ga3 capa3 w3 HA3
     obtain⟨wa4,hw4⟩: ∃z,z=w3.setCell ⟨W.heap.size+1+1+1,3,none⟩ (.slice (some ⟨ga3,0,none⟩) (nv+1) capa3):=⟨_,rfl⟩
     have HA4:Hid (PutInv W wa4 _ _ S (vs++[y]) (xs++[.int .i64 y0,.int .i64 y1,.string y2,.slice A3 y3 c3',.slice K3 y4 d3]) (.slice (some ⟨ga3,0,none⟩) (nv+1) capa3) (ks++[u]) (.slice (some ⟨ga,0,none⟩) (nk+1) capa)):=Lib.hid (by rw[hw4];exact HA3.out)
     rw[←hw4]
     clear hw4 HA3
     go_wp2_with fail
     go_roundw
     case rel=>exact⟨j+1,true,ks++[u],vs++[y],xs++[.int .i64 y0,.int .i64 y1,.string y2,.slice A3 y3 c3',.slice K3 y4 d3],_,_,rfl,by go_num,by omega,by(try simp);have:=HKN.out;omega,by(try simp);have:=HVN.out;omega,by(try simp);have:=HLEN.out;omega,(fun h=>by cases h),⟨by rw[←HPUT.out.1,HST2.out];try simp,by rw[←HPUT.out.2,HST2.out];try simp⟩,by
      intro v hv
      try simp only[List.mem_append,List.mem_singleton,List.mem_cons,List.not_mem_nil,or_false]at hv
      rcases hv with hv|rfl
      ·exact HUS.out v hv
      ·exact HUSZ.out,by rw[HC3.out,HC5.out];exact HA4.out⟩
     case measure=>simp[intOf];omega
    |false=>
     by_cases hless:Op.bytesLess u.toList t.toList=true
     ·have HST2:Hid (zaw t x false (K.drop j) (L.drop j)=(u::(zaw t x false (K.drop (j+1)) (L.drop (j+1))).1,y::(zaw t x false (K.drop (j+1)) (L.drop (j+1))).2)):=Lib.hid (by
       rw[HST.out,if_neg hut,if_neg hut,hless];simp)
      clear hut HST
      go_wp2_with fail
      obtain⟨a33,a34,a50,a51,a52,a53,a54,a73,a74,fa73,fa74⟩:=HI3.out.cells.grown (zaJ (World.grownBy_alloc wr (.cells #[.string u] 9) none)) (by intro k hk;cases hk)
      apply once
      ·intro key
       go_region_law((refine step_append_lies _ (by rfl) _ _ _ (by rfl) (W.heap.size+4) 9 iS (.string ⟨#[]⟩) 1 16 Tryz.underlying22 hSS hS0 hS1 hS2 rfl (by omega) vK nk _ (by rfl) ((HK.out.alloc _).drew) ⟨wr.heap.size,0,none⟩ 1 1 [.string u] (by rfl) (by rfl) (World.news_of_block (cs:= #[.string u]) (t:=9) (fr:=(0,0)) (heap_alloc_new wr _)) (by simp[Value.oneCell']) (by omega) (by unfold maxLen;omega) (by omega) (by simp;omega) (wr.heap.size+1) (by simp) ?_;intro gb capb w1 hown1 hgrow hat hlt2;have HA1:=Lib.hid (HI3.out.addK HS.out (zaJ (World.grownBy_alloc wr (.cells #[.string u] 9) none)) hgrow (by rw[HKN.out]) hown1);obtain⟨k33,k34,k50,k51,k52,k53,k54,k73,k74,fk73,fk74⟩:=(HI3.out.cells.grown (zaJ (World.grownBy_alloc wr (.cells #[.string u] 9) none)) (by intro k hk;cases hk)).grown hgrow (fun k hk=>(HK.out.lt k hk).1);clear hown1 hgrow hat))
       all_goals(clear k33 k34 k50 k51 k52 k53 k54 k73 k74 fk73 fk74 hlt2;revert HA1;revert w1;revert capb;revert gb;exact key.out)
      clear a33 a34 a50 a51 a52 a53 a54 a73 a74 fa73 fa74
      intro gb capb w1 HA1
      obtain⟨wb2,hw2⟩: ∃z,z=w1.setCell ⟨W.heap.size+1+1+1,4,none⟩ (.slice (some ⟨gb,0,none⟩) (nk+1) capb):=⟨_,rfl⟩
      have HA2:Hid (PutInv W wb2 _ _ S vs xs vL (ks++[u]) (.slice (some ⟨gb,0,none⟩) (nk+1) capb)):=Lib.hid (by rw[hw2];exact HA1.out)
      rw[←hw2]
      obtain⟨g33,g34,g50,g51,g52,g53,g54,g73,g74,fg73,fg74⟩:=HA2.out.cells
      obtain⟨t0,t1,t2,t3,t4,et,r0,r1,r2,r3,r4⟩:=HFIVE.out.keeps HS2.out hb2 (Keeps.below (S:=S) HA2.out.2.2.2.1 (fun b h _=>HS.out b h))
      simp only[Value.agg.injEq,Array.mk.injEq,List.cons.injEq,and_true]at et
      obtain⟨rfl,rfl,rfl,rfl,rfl⟩:=et
      clear hw2 HA1 e33 e34 e50 e51 e52 e53 e54 e73 e74 f73 f74 z0 z1 z2 z3 z4 hu'
      have HL2:Hid (wb2.ownsRow (W.heap.size+4) 27 5 vL nv xs):=Lib.hid (zel HA2.out.2.1.1 HVN.out)
      have hz2:=HA2.out.2.2.2.2
      go_wp2_with fail
      obtain⟨a33,a34,a50,a51,a52,a53,a54,a73,a74,fa73,fa74⟩:=HA2.out.cells.grown (zaJ (World.grownBy_alloc wb2 (.cells #[.int .i64 y0,.int .i64 y1,.string y2,.slice A3 y3 c3',.slice K3 y4 d3] 27) none)) (by intro k hk;cases hk)
      obtain⟨q0,q1,q2,q3,q4⟩:(wb2.alloc (.cells #[.int .i64 y0,.int .i64 y1,.string y2,.slice A3 y3 c3',.slice K3 y4 d3] 27)).drew.cell? ⟨b2,o2+j*5,none⟩=some (.int .i64 y0)∧(wb2.alloc (.cells #[.int .i64 y0,.int .i64 y1,.string y2,.slice A3 y3 c3',.slice K3 y4 d3] 27)).drew.cell? ⟨b2,o2+j*5+1,none⟩=some (.int .i64 y1)∧(wb2.alloc (.cells #[.int .i64 y0,.int .i64 y1,.string y2,.slice A3 y3 c3',.slice K3 y4 d3] 27)).drew.cell? ⟨b2,o2+j*5+2,none⟩=some (.string y2)∧(wb2.alloc (.cells #[.int .i64 y0,.int .i64 y1,.string y2,.slice A3 y3 c3',.slice K3 y4 d3] 27)).drew.cell? ⟨b2,o2+j*5+3,none⟩=some (.slice A3 y3 c3')∧(wb2.alloc (.cells #[.int .i64 y0,.int .i64 y1,.string y2,.slice A3 y3 c3',.slice K3 y4 d3] 27)).drew.cell? ⟨b2,o2+j*5+4,none⟩=some (.slice K3 y4 d3):=
       ⟨(zaJ (World.grownBy_alloc wb2 (.cells #[.int .i64 y0,.int .i64 y1,.string y2,.slice A3 y3 c3',.slice K3 y4 d3] 27) none)).cell r0 (by simp),(zaJ (World.grownBy_alloc wb2 (.cells #[.int .i64 y0,.int .i64 y1,.string y2,.slice A3 y3 c3',.slice K3 y4 d3] 27) none)).cell r1 (by simp),(zaJ (World.grownBy_alloc wb2 (.cells #[.int .i64 y0,.int .i64 y1,.string y2,.slice A3 y3 c3',.slice K3 y4 d3] 27) none)).cell r2 (by simp),(zaJ (World.grownBy_alloc wb2 (.cells #[.int .i64 y0,.int .i64 y1,.string y2,.slice A3 y3 c3',.slice K3 y4 d3] 27) none)).cell r3 (by simp),(zaJ (World.grownBy_alloc wb2 (.cells #[.int .i64 y0,.int .i64 y1,.string y2,.slice A3 y3 c3',.slice K3 y4 d3] 27) none)).cell r4 (by simp)⟩
      apply once
      ·intro key
       go_region_law((refine step_append_lies _ (by rfl) _ _ _ (by rfl) (W.heap.size+4) 27 iJ (.agg #[.int .i64 0,.int .i64 0,.string ⟨#[]⟩,.slice none 0 0,.slice none 0 0]) 5 80 Tryz.underlying23 hJ hJ0 hJ1 hJ2 rfl (by omega) vL nv _ (by rfl) ((HL2.out.alloc _).drew) ⟨wb2.heap.size,0,none⟩ 1 1 [.int .i64 y0,.int .i64 y1,.string y2,.slice A3 y3 c3',.slice K3 y4 d3] (by rfl) (by rfl) (World.news_of_block (cs:= #[.int .i64 y0,.int .i64 y1,.string y2,.slice A3 y3 c3',.slice K3 y4 d3]) (t:=27) (fr:=(0,0)) (heap_alloc_new wb2 _)) (by simp[Value.oneCell']) (by omega) (by unfold maxLen;omega) (by omega) (by simp;omega) (wb2.heap.size+1) (by simp) ?_;intro gb3 capb3 w3 hown1 hgrow hat hlt2;have HA3:=Lib.hid (HA2.out.addL HS.out (zaJ (World.grownBy_alloc wb2 (.cells #[.int .i64 y0,.int .i64 y1,.string y2,.slice A3 y3 c3',.slice K3 y4 d3] 27) none)) hgrow (by rw[HVN.out]) hown1 HY.out);obtain⟨k33,k34,k50,k51,k52,k53,k54,k73,k74,fk73,fk74⟩:=(HA2.out.cells.grown (zaJ (World.grownBy_alloc wb2 (.cells #[.int .i64 y0,.int .i64 y1,.string y2,.slice A3 y3 c3',.slice K3 y4 d3] 27) none)) (by intro k hk;cases hk)).grown hgrow (fun k hk=>(HL2.out.lt k hk).1);clear hown1 hgrow hat))
       all_goals(clear k33 k34 k50 k51 k52 k53 k54 k73 k74 fk73 fk74 hlt2;revert HA3;revert w3;revert capb3;revert gb3;exact key.out)
      clear a33 a34 a50 a51 a52 a53 a54 a73 a74 fa73 fa74 g33 g34 g50 g51 g52 g53 g54 g73 g74 fg73 fg74 q0 q1 q2 q3 q4 r0 r1 r2 r3 r4 hz2
      intro gb3 capb3 w3 HA3
      obtain⟨wb4,hw4⟩: ∃z,z=w3.setCell ⟨W.heap.size+1+1+1,3,none⟩ (.slice (some ⟨gb3,0,none⟩) (nv+1) capb3):=⟨_,rfl⟩
      have HA4:Hid (PutInv W wb4 _ _ S (vs++[y]) (xs++[.int .i64 y0,.int .i64 y1,.string y2,.slice A3 y3 c3',.slice K3 y4 d3]) (.slice (some ⟨gb3,0,none⟩) (nv+1) capb3) (ks++[u]) (.slice (some ⟨gb,0,none⟩) (nk+1) capb)):=Lib.hid (by rw[hw4];exact HA3.out)
      rw[←hw4]
      clear hw4 HA3
      go_wp2_with fail
      go_roundw
      case rel=>exact⟨j+1,false,ks++[u],vs++[y],xs++[.int .i64 y0,.int .i64 y1,.string y2,.slice A3 y3 c3',.slice K3 y4 d3],_,_,rfl,by go_num,by omega,by(try simp);have:=HKN.out;omega,by(try simp);have:=HVN.out;omega,by(try simp);have:=HLEN.out;omega,(fun _=>by simp;exact HDF.out trivial),⟨by rw[←HPUT.out.1,HST2.out];try simp,by rw[←HPUT.out.2,HST2.out];try simp⟩,by
       intro v hv
       try simp only[List.mem_append,List.mem_singleton,List.mem_cons,List.not_mem_nil,or_false]at hv
       rcases hv with hv|rfl
       ·exact HUS.out v hv
       ·exact HUSZ.out,by rw[HC3.out,HC5.out];exact HA4.out⟩
      case measure=>simp[intOf];omega
     ·replace hless:Op.bytesLess u.toList t.toList=false:=by simpa using hless
      have HST2:Hid (zaw t x false (K.drop j) (L.drop j)=(t::u::(zaw t x true (K.drop (j+1)) (L.drop (j+1))).1,x::y::(zaw t x true (K.drop (j+1)) (L.drop (j+1))).2)):=Lib.hid (by
       rw[HST.out,if_neg hut,if_neg hut,hless];simp)
      have hk0:nk≤j:=by have:=HDF.out rfl;have:=HKN.out;omega
      have hv0:nv≤j:=by have:=HDF.out rfl;have:=HVN.out;have:=HLEN.out;omega
      clear hut HST
      go_wp2_with(first
       |(at_builtin;refine wpList_append_lies _ rfl (.tmp 30) (.tmp 32) 22 rfl (W.heap.size+4) 9 iS (.string ⟨#[]⟩) 1 16 Tryz.underlying22 hSS hS0 hS1 hS2 rfl (by decide) vK nk _ rfl (HK.out.alloc _) ⟨wr.heap.size,0,none⟩ 1 1 [.string t] rfl rfl ?va1 ?va2 (by decide) ?va3 ?va4 ?va5 _ rfl ?_))
      case va2=>first|rfl|(intro v hv;rw[List.mem_singleton.1 hv];rfl)
      case va3=>unfold maxLen;omega
      case va4=>omega
      case va5=>first|omega|(simp;omega)
      intro gi capi w1 hown1 hgrow hat hlt1
      have HA:=Lib.hid (HI3.out.addK HS.out (World.grownBy_alloc wr _ none) hgrow (by rw[HKN.out]) hown1)
      obtain⟨k33,k34,k50,k51,k52,k53,k54,k73,k74,fk73,fk74⟩:=(HI3.out.cells.grown (World.grownBy_alloc wr _ none) (by intro k hk;cases hk)).grown hgrow (fun k hk=>(HK.out.lt k hk).1)
      have HLI:=Lib.hid (zel HA.out.2.1.1 HVN.out)
      have hz1:=HA.out.2.2.2.2
      clear hown1 hgrow hat
      go_wp2_with(first
       |(at_builtin;refine wpList_append_lies _ rfl (.tmp 36) (.tmp 38) 23 rfl (W.heap.size+4) 27 iJ (.agg #[.int .i64 0,.int .i64 0,.string ⟨#[]⟩,.slice none 0 0,.slice none 0 0]) 5 80 Tryz.underlying23 hJ hJ0 hJ1 hJ2 rfl (by decide) vL nv _ rfl (HLI.out.alloc _) ⟨w1.heap.size,0,none⟩ 1 1 [.int .i64 x0,.int .i64 x1,.string x2,.slice A' x3 c',.slice K2 x4 d2] rfl rfl ?vb1 ?vb2 (by decide) ?vb3 ?vb4 ?vb5 _ rfl ?_))
      case vb1=>exact World.news_of_block (cs:= #[.int .i64 x0,.int .i64 x1,.string x2,.slice A' x3 c',.slice K2 x4 d2]) (zgy (by simp) [.int .i64 x0,.int .i64 x1,.string x2,.slice A' x3 c',.slice K2 x4 d2] 27)
      case vb2=>intro v hv;simp at hv;rcases hv with rfl|rfl|rfl|rfl|rfl<;>rfl
      case vb3=>unfold maxLen;omega
      case vb4=>omega
      case vb5=>simp;simp at hz1;omega
      intro gj capj w2 hown2 hgrow2 hat2 hlt2
      have HAI:=Lib.hid (HA.out.addL HS.out (World.grownBy_alloc _ _ none) hgrow2 (by rw[HVN.out]) hown2 HX.out)
      obtain⟨m33,m34,m50,m51,m52,m53,m54,m73,m74,fm73,fm74⟩:=(HA.out.cells.grown (World.grownBy_alloc _ _ none) (by intro k hk;cases hk)).grown hgrow2 (fun k hk=>(HLI.out.lt k hk).1)
      clear hown2 hgrow2 hat2 k33 k34 k50 k51 k52 k53 k54 k73 k74 fk73 fk74 hz1 hlt1
      go_upto_region 9 with(fail)
      obtain⟨wi,hwi⟩: ∃z,z=w2.setCell ⟨W.heap.size+1+1+1,3,none⟩ (.slice (some ⟨gj,0,none⟩) (nv+1) capj):=⟨_,rfl⟩
      have HI5:Hid (PutInv W wi [.int .i64 kd,.int .i64 n,.string s,.slice (some ⟨b2,o2,none⟩) q c,.slice (some ⟨b1,o1,none⟩) q d1] [.int .i64 x0,.int .i64 x1,.string x2,.slice A' x3 c',.slice K2 x4 d2] S (vs++[x]) (xs++[.int .i64 x0,.int .i64 x1,.string x2,.slice A' x3 c',.slice K2 x4 d2]) (.slice (some ⟨gj,0,none⟩) (nv+1) capj) (ks++[t]) (.slice (some ⟨gi,0,none⟩) (nk+1) capi)):=Lib.hid (by rw[hwi];exact HAI.out)
      rw[←hwi]
      obtain⟨i33,i34,i50,i51,i52,i53,i54,i73,i74,fi73,fi74⟩:=HI5.out.cells
      have hu2:=(HI5.out.2.2.2.1.cell (p:=⟨b1,o1+j,none⟩) hb1).trans HU.out
      have HKI:Hid (wi.ownsRow (W.heap.size+4) 9 1 (.slice (some ⟨gi,0,none⟩) (nk+1) capi) (nk+1) ((ks++[t]).map Value.string)):=Lib.hid (zel HI5.out.2.2.1 (by rw[List.length_append,HKN.out];rfl))
      have HLJ:Hid (wi.ownsRow (W.heap.size+4) 27 5 (.slice (some ⟨gj,0,none⟩) (nv+1) capj) (nv+1) (xs++[.int .i64 x0,.int .i64 x1,.string x2,.slice A' x3 c',.slice K2 x4 d2])):=Lib.hid (zel HI5.out.2.1.1 (by rw[List.length_append,HVN.out];rfl))
      have hzi:=HI5.out.2.2.2.2
      clear hwi m33 m34 m50 m51 m52 m53 m54 m73 m74 fm73 fm74 e33 e34 e50 e51 e52 e53 e54 e73 e74 f73 f74 hu' hlt2
      go_wp2_with fail
      obtain⟨a33,a34,a50,a51,a52,a53,a54,a73,a74,fa73,fa74⟩:=HI5.out.cells.grown (zaJ (World.grownBy_alloc wi (.cells #[.string u] 9) none)) (by intro k hk;cases hk)
      apply once
      ·intro key
       go_region_law((refine step_append_lies _ (by rfl) _ _ _ (by rfl) (W.heap.size+4) 9 iS (.string ⟨#[]⟩) 1 16 Tryz.underlying22 hSS hS0 hS1 hS2 rfl (by omega) (.slice (some ⟨gi,0,none⟩) (nk+1) capi) (nk+1) _ (by rfl) ((HKI.out.alloc _).drew) ⟨wi.heap.size,0,none⟩ 1 1 [.string u] (by rfl) (by rfl) (World.news_of_block (cs:= #[.string u]) (t:=9) (fr:=(0,0)) (heap_alloc_new wi _)) (by simp[Value.oneCell']) (by omega) (by unfold maxLen;omega) (by omega) (by simp;omega) (wi.heap.size+1) (by simp) ?_;intro gc capc w1 hown1 hgrow hat hlt2;have HA1:=Lib.hid (HI5.out.addK HS.out (zaJ (World.grownBy_alloc wi (.cells #[.string u] 9) none)) hgrow (by rw[List.length_append,HKN.out];rfl) hown1);obtain⟨k33,k34,k50,k51,k52,k53,k54,k73,k74,fk73,fk74⟩:=(HI5.out.cells.grown (zaJ (World.grownBy_alloc wi (.cells #[.string u] 9) none)) (by intro k hk;cases hk)).grown hgrow (fun k hk=>(HKI.out.lt k hk).1);clear hown1 hgrow hat))
       all_goals(clear k33 k34 k50 k51 k52 k53 k54 k73 k74 fk73 fk74 hlt2;revert HA1;revert w1;revert capc;revert gc;exact key.out)
      clear a33 a34 a50 a51 a52 a53 a54 a73 a74 fa73 fa74
      intro gc capc w1 HA1
      obtain⟨wc2,hw2⟩: ∃z,z=w1.setCell ⟨W.heap.size+1+1+1,4,none⟩ (.slice (some ⟨gc,0,none⟩) ((nk+1)+1) capc):=⟨_,rfl⟩
      have HA2:Hid (PutInv W wc2 _ _ S (vs++[x]) (xs++[.int .i64 x0,.int .i64 x1,.string x2,.slice A' x3 c',.slice K2 x4 d2]) (.slice (some ⟨gj,0,none⟩) (nv+1) capj) ((ks++[t])++[u]) (.slice (some ⟨gc,0,none⟩) ((nk+1)+1) capc)):=Lib.hid (by rw[hw2];exact HA1.out)
      rw[←hw2]
      obtain⟨g33,g34,g50,g51,g52,g53,g54,g73,g74,fg73,fg74⟩:=HA2.out.cells
      obtain⟨t0,t1,t2,t3,t4,et,r0,r1,r2,r3,r4⟩:=HFIVE.out.keeps HS2.out hb2 (Keeps.below (S:=S) HA2.out.2.2.2.1 (fun b h _=>HS.out b h))
      simp only[Value.agg.injEq,Array.mk.injEq,List.cons.injEq,and_true]at et
      obtain⟨rfl,rfl,rfl,rfl,rfl⟩:=et
      clear hw2 HA1 i33 i34 i50 i51 i52 i53 i54 i73 i74 fi73 fi74 z0 z1 z2 z3 z4 hu2
      have HL2:Hid (wc2.ownsRow (W.heap.size+4) 27 5 (.slice (some ⟨gj,0,none⟩) (nv+1) capj) (nv+1) (xs++[.int .i64 x0,.int .i64 x1,.string x2,.slice A' x3 c',.slice K2 x4 d2])):=Lib.hid (zel HA2.out.2.1.1 (by rw[List.length_append,HVN.out];rfl))
      have hz2:=HA2.out.2.2.2.2
      go_wp2_with fail
      obtain⟨a33,a34,a50,a51,a52,a53,a54,a73,a74,fa73,fa74⟩:=HA2.out.cells.grown (zaJ (World.grownBy_alloc wc2 (.cells #[.int .i64 y0,.int .i64 y1,.string y2,.slice A3 y3 c3',.slice K3 y4 d3] 27) none)) (by intro k hk;cases hk)
      obtain⟨q0,q1,q2,q3,q4⟩:(wc2.alloc (.cells #[.int .i64 y0,.int .i64 y1,.string y2,.slice A3 y3 c3',.slice K3 y4 d3] 27)).drew.cell? ⟨b2,o2+j*5,none⟩=some (.int .i64 y0)∧(wc2.alloc (.cells #[.int .i64 y0,.int .i64 y1,.string y2,.slice A3 y3 c3',.slice K3 y4 d3] 27)).drew.cell? ⟨b2,o2+j*5+1,none⟩=some (.int .i64 y1)∧(wc2.alloc (.cells #[.int .i64 y0,.int .i64 y1,.string y2,.slice A3 y3 c3',.slice K3 y4 d3] 27)).drew.cell? ⟨b2,o2+j*5+2,none⟩=some (.string y2)∧(wc2.alloc (.cells #[.int .i64 y0,.int .i64 y1,.string y2,.slice A3 y3 c3',.slice K3 y4 d3] 27)).drew.cell? ⟨b2,o2+j*5+3,none⟩=some (.slice A3 y3 c3')∧(wc2.alloc (.cells #[.int .i64 y0,.int .i64 y1,.string y2,.slice A3 y3 c3',.slice K3 y4 d3] 27)).drew.cell? ⟨b2,o2+j*5+4,none⟩=some (.slice K3 y4 d3):=
       ⟨(zaJ (World.grownBy_alloc wc2 (.cells #[.int .i64 y0,.int .i64 y1,.string y2,.slice A3 y3 c3',.slice K3 y4 d3] 27) none)).cell r0 (by simp),(zaJ (World.grownBy_alloc wc2 (.cells #[.int .i64 y0,.int .i64 y1,.string y2,.slice A3 y3 c3',.slice K3 y4 d3] 27) none)).cell r1 (by simp),(zaJ (World.grownBy_alloc wc2 (.cells #[.int .i64 y0,.int .i64 y1,.string y2,.slice A3 y3 c3',.slice K3 y4 d3] 27) none)).cell r2 (by simp),(zaJ (World.grownBy_alloc wc2 (.cells #[.int .i64 y0,.int .i64 y1,.string y2,.slice A3 y3 c3',.slice K3 y4 d3] 27) none)).cell r3 (by simp),(zaJ (World.grownBy_alloc wc2 (.cells #[.int .i64 y0,.int .i64 y1,.string y2,.slice A3 y3 c3',.slice K3 y4 d3] 27) none)).cell r4 (by simp)⟩
      apply once
      ·intro key
       go_region_law((refine step_append_lies _ (by rfl) _ _ _ (by rfl) (W.heap.size+4) 27 iJ (.agg #[.int .i64 0,.int .i64 0,.string ⟨#[]⟩,.slice none 0 0,.slice none 0 0]) 5 80 Tryz.underlying23 hJ hJ0 hJ1 hJ2 rfl (by omega) (.slice (some ⟨gj,0,none⟩) (nv+1) capj) (nv+1) _ (by rfl) ((HL2.out.alloc _).drew) ⟨wc2.heap.size,0,none⟩ 1 1 [.int .i64 y0,.int .i64 y1,.string y2,.slice A3 y3 c3',.slice K3 y4 d3] (by rfl) (by rfl) (World.news_of_block (cs:= #[.int .i64 y0,.int .i64 y1,.string y2,.slice A3 y3 c3',.slice K3 y4 d3]) (t:=27) (fr:=(0,0)) (heap_alloc_new wc2 _)) (by simp[Value.oneCell']) (by omega) (by unfold maxLen;omega) (by omega) (by simp;omega) (wc2.heap.size+1) (by simp) ?_;intro gc3 capc3 w3 hown1 hgrow hat hlt2;have HA3:=Lib.hid (HA2.out.addL HS.out (zaJ (World.grownBy_alloc wc2 (.cells #[.int .i64 y0,.int .i64 y1,.string y2,.slice A3 y3 c3',.slice K3 y4 d3] 27) none)) hgrow (by rw[List.length_append,HVN.out];rfl) hown1 HY.out);obtain⟨k33,k34,k50,k51,k52,k53,k54,k73,k74,fk73,fk74⟩:=(HA2.out.cells.grown (zaJ (World.grownBy_alloc wc2 (.cells #[.int .i64 y0,.int .i64 y1,.string y2,.slice A3 y3 c3',.slice K3 y4 d3] 27) none)) (by intro k hk;cases hk)).grown hgrow (fun k hk=>(HL2.out.lt k hk).1);clear hown1 hgrow hat))
       all_goals(clear k33 k34 k50 k51 k52 k53 k54 k73 k74 fk73 fk74 hlt2;revert HA3;revert w3;revert capc3;revert gc3;exact key.out)
      clear a33 a34 a50 a51 a52 a53 a54 a73 a74 fa73 fa74 g33 g34 g50 g51 g52 g53 g54 g73 g74 fg73 fg74 q0 q1 q2 q3 q4 r0 r1 r2 r3 r4 hz2
      intro gc3 capc3 w3 HA3
      obtain⟨wc4,hw4⟩: ∃z,z=w3.setCell ⟨W.heap.size+1+1+1,3,none⟩ (.slice (some ⟨gc3,0,none⟩) ((nv+1)+1) capc3):=⟨_,rfl⟩
      have HA4:Hid (PutInv W wc4 _ _ S ((vs++[x])++[y]) ((xs++[.int .i64 x0,.int .i64 x1,.string x2,.slice A' x3 c',.slice K2 x4 d2])++[.int .i64 y0,.int .i64 y1,.string y2,.slice A3 y3 c3',.slice K3 y4 d3]) (.slice (some ⟨gc3,0,none⟩) ((nv+1)+1) capc3) ((ks++[t])++[u]) (.slice (some ⟨gc,0,none⟩) ((nk+1)+1) capc)):=Lib.hid (by rw[hw4];exact HA3.out)
      rw[←hw4]
      clear hw4 HA3
      go_wp2_with fail
      go_roundw
      case rel=>exact⟨j+1,true,ks++[t]++[u],vs++[x]++[y],xs++[.int .i64 x0,.int .i64 x1,.string x2,.slice A' x3 c',.slice K2 x4 d2]++[.int .i64 y0,.int .i64 y1,.string y2,.slice A3 y3 c3',.slice K3 y4 d3],_,_,rfl,by go_num,by omega,by(try simp);have:=HKN.out;omega,by(try simp);have:=HVN.out;omega,by(try simp);have:=HLEN.out;omega,(fun h=>by cases h),⟨by rw[←HPUT.out.1,HST2.out];try simp,by rw[←HPUT.out.2,HST2.out];try simp⟩,by
       intro v hv
       try simp only[List.mem_append,List.mem_singleton,List.mem_cons,List.not_mem_nil,or_false]at hv
       rcases hv with(hv|rfl)|rfl
       ·exact HUS.out v hv
       ·exact HTS.out
       ·exact HUSZ.out,by rw[HC3.out,HC5.out];exact HA4.out⟩
      case measure=>simp[intOf];omega
  ·obtain rfl:j=q:=by omega
   have hge: ¬(j:Int)<(j:Int):=by omega
   have HE1:Hid (K.drop j=[]):=Lib.hid (List.drop_eq_nil_of_le (by rw[HQ.out];exact Nat.le_refl _))
   cases d with
   |true=>
    have HR:Hid ((zaw t x false K L).1=ks∧(zaw t x false K L).2=vs):=Lib.hid (by
     have h:=HPUT.out
     rw[HE1.out,zaw]at h
     exact⟨by rw[←h.1];simp,by rw[←h.2];simp⟩)
    go_wp2_with(first
     |(refine zfm rfl (some 82) rfl _ (.tmp 7) rfl (W.heap.size+3) 0 rfl _ _ H7.out [.int .i64 5,.int .i64 0,.string ⟨#[]⟩,vL,vK] (by simp) _ Tryz.underlying27 rfl zaa ?_;try go_frame)
     |(refine zaQ rfl none rfl _ (.tmp 6) (.tmp 82) rfl (W.heap.size+2) 0 [.int .i64 5,.int .i64 0,.string ⟨#[]⟩,vL,vK] rfl rfl _ _ H6.out (by simp[zeros5]) zaa (by intro v hv;simp at hv;rcases hv with rfl|rfl|rfl|rfl|rfl<;>first|rfl|exact own_one HL.out|exact own_one HK.out) ?_;intro w5 hb5 hgr;rw[zaW _ _ (by simp[zeros5])]at hb5;have HB5:=Lib.hid (HB.out.grown hgr HB.out.size (by intro k hk;injection hk with hk;omega));have HG5:=Lib.hid hgr;clear hgr;try go_frame))
    refine bodyPost_ret (v:= .agg #[.int .i64 5,.int .i64 0,.string ⟨#[]⟩,vL,vK]) (zjv Tryz.results11 _ _ (W.heap.size+2) _ [.int .i64 5,.int .i64 0,.string ⟨#[]⟩,vL,vK] _ rfl hb5 Tryz.underlying27 rfl zaa) rfl ?_
    refine⟨_,rfl,?_,HB5.out⟩
    rw[HR.out.1,HR.out.2]
    exact HI3.out.tells HS.out HG5.out (by have:=HVN.out;omega) (by have:=HKN.out;omega) HUS.out
   |false=>
    have HR:Hid ((zaw t x false K L).1=ks++[t]∧(zaw t x false K L).2=vs++[x]):=Lib.hid (by
     have h:=HPUT.out
     rw[HE1.out,zaw]at h
     exact⟨by rw[←h.1],by rw[←h.2]⟩)
    go_wp2_with(first
     |(at_builtin;refine wpList_append_lies _ rfl (.tmp 71) (.tmp 73) 22 rfl (W.heap.size+4) 9 iS (.string ⟨#[]⟩) 1 16 Tryz.underlying22 hSS hS0 hS1 hS2 rfl (by decide) vK nk _ rfl (HK.out.alloc _) ⟨wr.heap.size,0,none⟩ 1 1 [.string t] rfl rfl ?a1 ?a2 (by decide) ?a3 ?a4 ?a5 _ rfl ?_))
    case a2=>first|rfl|(intro v hv;rw[List.mem_singleton.1 hv];rfl)
    case a3=>unfold maxLen;omega
    case a4=>omega
    case a5=>first|omega|(simp;omega)
    intro g cap w1 hown1 hgrow hat hlt1
    have HA:=Lib.hid (HI3.out.addK HS.out (World.grownBy_alloc wr _ none) hgrow (by rw[HKN.out]) hown1)
    obtain⟨k33,k34,k50,k51,k52,k53,k54,k73,k74,fk73,fk74⟩:=(HI3.out.cells.grown (World.grownBy_alloc wr _ none) (by intro k hk;cases hk)).grown hgrow (fun k hk=>(HK.out.lt k hk).1)
    have HL2:=Lib.hid (zel HA.out.2.1.1 HVN.out)
    have hz1:=HA.out.2.2.2.2
    clear hown1 hgrow hat
    go_wp2_with(first
     |(at_builtin;(refine wpList_append_lies _ rfl (.tmp 77) (.tmp 79) 23 rfl (W.heap.size+4) 27 iJ (.agg #[.int .i64 0,.int .i64 0,.string ⟨#[]⟩,.slice none 0 0,.slice none 0 0]) 5 80 Tryz.underlying23 hJ hJ0 hJ1 hJ2 rfl (by decide) vL nv _ rfl (HL2.out.alloc _) ⟨w1.heap.size,0,none⟩ 1 1 [.int .i64 x0,.int .i64 x1,.string x2,.slice A' x3 c',.slice K2 x4 d2] rfl rfl ?b1 ?b2 (by decide) ?b3 ?b4 ?b5 _ rfl ?_)))
    case b1=>exact World.news_of_block (cs:= #[.int .i64 x0,.int .i64 x1,.string x2,.slice A' x3 c',.slice K2 x4 d2]) (zgy (by simp) [.int .i64 x0,.int .i64 x1,.string x2,.slice A' x3 c',.slice K2 x4 d2] 27)
    case b2=>intro v hv;simp at hv;rcases hv with rfl|rfl|rfl|rfl|rfl<;>rfl
    case b3=>unfold maxLen;omega
    case b4=>omega
    case b5=>simp;simp at hz1;omega
    intro g2 cap2 w2 hown2 hgrow2 hat2 hlt2
    have HA2:=Lib.hid (HA.out.addL HS.out (World.grownBy_alloc _ _ none) hgrow2 (by rw[HVN.out]) hown2 HX.out)
    obtain⟨m33,m34,m50,m51,m52,m53,m54,m73,m74,fm73,fm74⟩:=(HA.out.cells.grown (World.grownBy_alloc _ _ none) (by intro k hk;cases hk)).grown hgrow2 (fun k hk=>(HL2.out.lt k hk).1)
    clear hown2 hgrow2 hat2 k33 k34 k50 k51 k52 k53 k54 k73 k74 fk73 fk74
    go_wp2_with(first
     |(refine zfm rfl (some 82) rfl _ (.tmp 7) rfl (W.heap.size+3) 0 rfl _ _ HA2.out.1.2.2.2 [.int .i64 5,.int .i64 0,.string ⟨#[]⟩,.slice (some ⟨g2,0,none⟩) (nv+1) cap2,.slice (some ⟨g,0,none⟩) (nk+1) cap] (by simp) _ Tryz.underlying27 rfl zaa ?_;try go_frame)
     |(refine zaQ rfl none rfl _ (.tmp 6) (.tmp 82) rfl (W.heap.size+2) 0 [.int .i64 5,.int .i64 0,.string ⟨#[]⟩,.slice (some ⟨g2,0,none⟩) (nv+1) cap2,.slice (some ⟨g,0,none⟩) (nk+1) cap] rfl rfl _ _ HA2.out.1.2.2.1 (by simp[zeros5]) zaa (by intro v hv;simp at hv;rcases hv with rfl|rfl|rfl|rfl|rfl<;>rfl) ?_;intro w5 hb5 hgr;rw[zaW _ _ (by simp[zeros5])]at hb5;have HB5:=Lib.hid (HA2.out.2.2.2.1.grown hgr HA2.out.2.2.2.1.size (by intro k hk;injection hk with hk;omega));have HG5:=Lib.hid hgr;clear hgr;try go_frame))
    refine bodyPost_ret (v:= .agg #[.int .i64 5,.int .i64 0,.string ⟨#[]⟩,.slice (some ⟨g2,0,none⟩) (nv+1) cap2,.slice (some ⟨g,0,none⟩) (nk+1) cap]) (zjv Tryz.results11 _ _ (W.heap.size+2) _ [.int .i64 5,.int .i64 0,.string ⟨#[]⟩,.slice (some ⟨g2,0,none⟩) (nv+1) cap2,.slice (some ⟨g,0,none⟩) (nk+1) cap] _ rfl hb5 Tryz.underlying27 rfl zaa) rfl ?_
    refine⟨_,rfl,?_,HB5.out⟩
    rw[HR.out.1,HR.out.2]
    exact HA2.out.tells HS.out HG5.out (by have:=HVN.out;rw[List.length_append];simp;omega) (by have:=HKN.out;rw[List.length_append];simp;omega) (by
     intro u hu
     rcases List.mem_append.1 hu with hu|hu
     ·exact HUS.out u hu
     ·rw[List.mem_singleton.1 hu];exact HTS.out)
def ObjInv (W wr:World) (ks:List ByteArray) (vs:List J) (vL vK:Value):Prop:=
 Blk wr W.heap.size 27 zeros5∧Blk wr (W.heap.size+1) 27 [.int .i64 5,.int .i64 0,.string ⟨#[]⟩,vL,vK]∧
 RepS wr (fun b=>W.heap.size+2≤b) (.mk 5 0 ⟨#[]⟩ vs ks) (.agg #[.int .i64 5,.int .i64 0,.string ⟨#[]⟩,vL,vK])∧Below W.heap.size W wr∧W.heap.size+2≤wr.heap.size
theorem ObjInv.put {W wr w5 w6:World} {ks ks':List ByteArray} {vs vs':List J} {vL vK vL' vK':Value} (hI:ObjInv W wr ks vs vL vK) (h5:Below wr.heap.size wr w5) (hx:RepS w5 (fun b=>W.heap.size+2≤b) (.mk 5 0 ⟨#[]⟩ vs' ks') (.agg #[.int .i64 5,.int .i64 0,.string ⟨#[]⟩,vL',vK']))
  (hb6:Blk w6 (W.heap.size+1) 27 [.int .i64 5,.int .i64 0,.string ⟨#[]⟩,vL',vK']) (hgr:w5.grownBy w6 (some (W.heap.size+1))):ObjInv W w6 ks' vs' vL' vK':=by
 obtain⟨h8,h13,hr,hb,hsz⟩:=hI
 have hb5:=hb.trans (h5.mono hb.size)
 refine⟨(h8.below h5 h8.lt).grown hgr (by intro e;injection e with e;omega),hb6,RepS.keeps (Keeps.grown hgr (fun b h e=> ?_)) (fun _ h _=>h) _ _ hx,hb5.grown hgr hb5.size (by intro k hk;injection hk with hk;omega),Nat.le_trans hsz (Nat.le_trans h5.size hgr.size)⟩
 injection e with e
 replace h:W.heap.size+2≤b:=h
 omega
theorem obj_form {W wr:World} {ks:List ByteArray} {vs:List J} {vL vK:Value} (hI:ObjInv W wr ks vs vL vK): ∃A c K d,vL= .slice A vs.length c∧vK= .slice K ks.length d:=by
 obtain⟨_,_,hr,_⟩:=hI
 obtain⟨vk,A,c,e,_,⟨K,d,ek,_⟩,_⟩:=hr.open
 simp only[Value.agg.injEq,Array.mk.injEq,List.cons.injEq,and_true]at e
 obtain⟨_,_,_,e3,e4⟩:=e
 exact⟨A,c,K,d,e3,by rw[e4,ek];rfl⟩
theorem getL_has: ∀{ks:List ByteArray} {vs:List J} (t:ByteArray),ks.length=vs.length→(getL ks vs t).isSome=hasK ks t
 |[],[],t,_=>rfl
 |k::ks,v::vs,t,h=>by
  have ih:=getL_has (ks:=ks) (vs:=vs) t (by simpa using h)
  unfold hasK at ih⊢
  rw[getL,List.any_cons]
  by_cases e:k=t
  ·rw[if_pos e,decide_eq_true e];rfl
  ·rw[if_neg e,decide_eq_false e,ih];rfl
theorem putKL_len (t:ByteArray) (x:J): ∀(ks:List ByteArray) (d:Bool) (vs:List J),(zaw t x d ks vs).1.length=(zaw t x d ks vs).2.length∧(zaw t x d ks vs).1.length≤ks.length+(if d=true then 0 else 1)
 |[],false,_=>by rw[zaw];simp
 |[],true,_=>by rw[zaw];simp
 |k::ks,d,vs=>by
  have ih:=putKL_len t x ks (d|| !Op.bytesLess k.toList t.toList) vs.tail
  cases d with
  |false=>
   rw[zaw]
   cases hb:Op.bytesLess k.toList t.toList with
   |false=>
    rw[hb]at ih
    simp only[Bool.not_false,Bool.or_true,if_true,Nat.add_zero,Bool.or_eq_true]at ih
    by_cases e:k=t
    ·simp[e];(try simp at ih);omega
    ·simp[e];(try simp at ih);omega
   |true=>
    rw[hb]at ih
    by_cases e:k=t
    ·simp[e];(try simp at ih);omega
    ·simp[e];(try simp at ih);omega
  |true=>
   rw[zaw]
   by_cases e:k=t
   ·simp[e];(try simp at ih);omega
   ·simp[e];(try simp at ih);omega
theorem obj_start (W:World):ObjInv W ((W.alloc (.cells zeros5.toArray 27)).alloc (.cells #[.int .i64 5,.int .i64 0,.string ⟨#[]⟩,.slice none 0 0,.slice none 0 0] 27)) [] [] (.slice none 0 0) (.slice none 0 0):=
 ⟨zbY W zeros5 [.int .i64 5,.int .i64 0,.string ⟨#[]⟩,.slice none 0 0,.slice none 0 0],zbj W zeros5 [.int .i64 5,.int .i64 0,.string ⟨#[]⟩,.slice none 0 0,.slice none 0 0],RepS.plain _ _ 5 0 _ (by decide),zbV W zeros5 [.int .i64 5,.int .i64 0,.string ⟨#[]⟩,.slice none 0 0,.slice none 0 0],by simp⟩
theorem refMany_obj (s:ByteArray) (hs:s.size≤5000) (deep:Int) (hd0:0≤deep) (hd:deep≤8) (val:Nat→Int→VR) (hv:ValOk s deep val) (i:Nat) (left:Int) (hi:i<s.size) (hl0:0≤left) (hl:left≤256) (W:World) (hc:atL (strL s) i=123):
  Calls Tryz.prog 132 #[.string s,.int .i64 (i:Int),.int .i64 deep,.int .i64 left] W (zbp W (zbX (strL s) val i left)):=by
 have HLEN:=Lib.hid (zaX s)
 have HV:=Lib.hid hv
 have hG:=zhJ s i hi
 rw[hc]at hG
 have hne:(((s[i]'hi).toNat:Int)==123)=true:=by rw[←hG];rfl
 have HS1:=Lib.hid (fun W:World=>zcf s ((i:Int)+1) (i+1) W (by omega) (by omega) (by omega))
 have hsk:=zcz s.size (strL s) (i+1) (by rw[HLEN.out];omega) (by rw[HLEN.out];omega)
 rw[HLEN.out]at hsk
 have HM:Hid (zbX (strL s) val i left=zas (strL s) val true (s.size+1) true (zaY (strL s) (i+1)) left [] []):=Lib.hid (by
  unfold zbX;rw[hc,HLEN.out];rfl)
 obtain⟨k0,hk0⟩: ∃k,k=zaY (strL s) (i+1):=⟨_,rfl⟩
 rw[←hk0]at HS1 hsk HM
 have HK0:Hid (k0≤s.size):=Lib.hid hsk.2
 have HST:=Lib.hid (obj_start W)
 clear hc hG hk0 hsk hv
 go_enter Tryz.func132,Tryz.ntmps132
 go_wp2_with(go_at_call 95;(with_reducible refine(HS1.out _).mono ?_);rintro e w' ⟨rfl,rfl⟩)
 go_loopw[1,3,14] (fun a b c wr=> ∃(k f:Nat) (lf:Int) (fst:Bool) (ks:List ByteArray) (vs:List J) (vL vK:Value),a= .int .i64 (k:Int)∧b= .int .i64 lf∧c= .bool fst∧k≤s.size∧s.size<k+f∧0≤lf∧lf≤256∧ks.length≤k∧ks.length=vs.length∧zbX (strL s) val i left=zas (strL s) val true f fst k lf ks vs∧ObjInv W wr ks vs vL vK) (fun a _ _ _=>s.size-(intOf a).toNat)
 case atStart=>exact⟨k0,s.size+1,left,true,[],[],.slice none 0 0,.slice none 0 0,rfl,rfl,rfl,HK0.out,by omega,hl0,hl,by simp,rfl,HM.out,HST.out⟩
 case round=>
  obtain⟨k,f,lf,fst,ks,vs,vL,vK,rfl,rfl,rfl,hk,hf,hf0,hf1,hkk,hkl,hrun,hI⟩:=hrel
  have HRUN:=Lib.hid hrun
  have HI:=Lib.hid hI
  have HKL:=Lib.hid hkl
  obtain⟨hb8,hb13,hor,hb,hsz⟩:=hI
  have HOR:=Lib.hid hor
  have HB:=Lib.hid hb
  clear hrun hor hb HM HST HS1
  obtain⟨f,rfl⟩: ∃g,f=g+1:=⟨f-1,by omega⟩
  have HC:=Lib.hid (fun W:World=>zay s k W (by omega) (by omega))
  by_cases hend:atL (strL s) k=125
  ·as_aux_lemma=>
    have HR:Hid (zbX (strL s) val i left=(.mk 5 0 ⟨#[]⟩ vs ks,zaY (strL s) (k+1),lf,0)):=Lib.hid (by rw[HRUN.out,zas];exact if_pos hend)
    have HSK:=Lib.hid (fun W:World=>zcf s ((k:Int)+1) (k+1) W (by omega) (by omega) (by have:=zav (l:=strL s) (i:=k) (by rw[hend];decide);rw[HLEN.out]at this;omega))
    rw[hend]at HC
    obtain⟨A,c,K,d,rfl,rfl⟩:=obj_form HI.out
    clear hend HRUN hkl
    obtain⟨a0,a1,a2,a3,a4⟩:wr.cell? ⟨W.heap.size,0,none⟩=some (.int .i64 0)∧wr.cell? ⟨W.heap.size,1,none⟩=some (.int .i64 0)∧wr.cell? ⟨W.heap.size,2,none⟩=some (.string ⟨#[]⟩)∧wr.cell? ⟨W.heap.size,3,none⟩=some (.slice none 0 0)∧wr.cell? ⟨W.heap.size,4,none⟩=some (.slice none 0 0):=⟨hb8.cell 0,hb8.cell 1,hb8.cell 2,hb8.cell 3,hb8.cell 4⟩
    obtain⟨f0',f1',f2',f3',f4'⟩:wr.frozen? ⟨W.heap.size,0,none⟩=false∧wr.frozen? ⟨W.heap.size,1,none⟩=false∧wr.frozen? ⟨W.heap.size,2,none⟩=false∧wr.frozen? ⟨W.heap.size,3,none⟩=false∧wr.frozen? ⟨W.heap.size,4,none⟩=false:=⟨hb8.frozen 0,hb8.frozen 1,hb8.frozen 2,hb8.frozen 3,hb8.frozen 4⟩
    obtain⟨b0,b1,b2,b3,b4⟩:wr.cell? ⟨W.heap.size+1,0,none⟩=some (.int .i64 5)∧wr.cell? ⟨W.heap.size+1,1,none⟩=some (.int .i64 0)∧wr.cell? ⟨W.heap.size+1,2,none⟩=some (.string ⟨#[]⟩)∧wr.cell? ⟨W.heap.size+1,3,none⟩=some (.slice A vs.length c)∧wr.cell? ⟨W.heap.size+1,4,none⟩=some (.slice K ks.length d):=⟨hb13.cell 0,hb13.cell 1,hb13.cell 2,hb13.cell 3,hb13.cell 4⟩
    go_wp2_with(go_at_call 127;(with_reducible refine(HC.out _).mono ?_);rintro e w' ⟨rfl,rfl⟩)
    have hwr:IntKind.i64.wrap ((k:Int)+1)=(k:Int)+1:=by rw[IntKind.wrap_i64];omega
    go_region_law(go_simp;go_at_call 95;(with_reducible refine(HSK.out _).mono ?_);rintro e w' ⟨rfl,rfl⟩)
    all_goals
     clear hwr
     go_wp2_with fail
     simp only[List.getElem_toArray,List.getElem_cons_succ,List.getElem_cons_zero,Act.put,List.setIfInBounds_toArray,List.set_cons_succ,List.set_cons_zero]
     obtain⟨hA,hA2,hA3⟩:=fin5g HB.out hb8 (.int .i64 5) (.int .i64 0) (.string ⟨#[]⟩) (.slice A vs.length c) (.slice K ks.length d)
     obtain⟨hC,hC2,hC3⟩:=fin5g (zbQ HB.out) hb8.drew (.int .i64 5) (.int .i64 0) (.string ⟨#[]⟩) (.slice A vs.length c) (.slice K ks.length d)
     have hA':=hA.drew
     have hA2':=zbQ hA2
     have hA3':=zaJ hA3
     have hC3':=(zaJ (zae wr (some W.heap.size))).trans hC3
     refine bodyPost_ret (v:= .tuple #[.agg #[.int .i64 5,.int .i64 0,.string ⟨#[]⟩,.slice A vs.length c,.slice K ks.length d],.int .i64 (zaY (strL s) (k+1):Nat),.int .i64 lf,.int .i64 0]) (zak Tryz.results132 _ _ W.heap.size _ [.int .i64 5,.int .i64 0,.string ⟨#[]⟩,.slice A vs.length c,.slice K ks.length d] _ rfl (by first|(with_reducible exact hA')|(with_reducible exact hC)) Tryz.underlying27 rfl zaa) rfl ?_
     rw[HR.out]
     exact⟨_,rfl,RepS.keeps (Keeps.grown (by first|(with_reducible exact hA3')|(with_reducible exact hC3')) (fun b (h:_≤b) e=>by injection e with e;omega)) (fun b (h:_≤b) _=>show W.heap.size≤b by omega) _ _ HOR.out,(by first|(with_reducible exact hA2')|(with_reducible exact hC2))⟩
  ·obtain⟨c,hcc⟩: ∃c,c=atL (strL s) k:=⟨_,rfl⟩
   have HLT:Hid (c≠ -1→k<s.size):=Lib.hid (fun h=>by rw[←HLEN.out];exact zav (by rw[←hcc];exact h))
   have HGO:Hid (zbX (strL s) val i left=if fst=true then zem (strL s) val true (zas (strL s) val true f false) k lf ks vs else if c≠44 then(zeroJ,k,lf,50)else zem (strL s) val true (zas (strL s) val true f false) (zaY (strL s) (k+1)) lf ks vs):=Lib.hid (by rw[HRUN.out,zas,hcc];exact if_neg hend)
   rw[←hcc]at HC hend
   obtain⟨o1,o2⟩:=zbd hend
   clear hcc hend HRUN
   obtain⟨r0,r1,r2,r3,r4⟩:wr.cell? ⟨W.heap.size+1,0,none⟩=some (.int .i64 5)∧wr.cell? ⟨W.heap.size+1,1,none⟩=some (.int .i64 0)∧wr.cell? ⟨W.heap.size+1,2,none⟩=some (.string ⟨#[]⟩)∧wr.cell? ⟨W.heap.size+1,3,none⟩=some (vL)∧wr.cell? ⟨W.heap.size+1,4,none⟩=some (vK):=⟨hb13.cell 0,hb13.cell 1,hb13.cell 2,hb13.cell 3,hb13.cell 4⟩
   have HGO1:Hid (fst=true→zbX (strL s) val i left=zem (strL s) val true (zas (strL s) val true f false) k lf ks vs):=Lib.hid (fun h=>HGO.out.trans (if_pos h))
   clear hkl
   go_upto_if 41 with(go_at_call 127;(with_reducible refine(HC.out _).mono ?_);rintro e w' ⟨rfl,rfl⟩)
   go_cut[1]from 35 to 139 (fun v wx=> ∃a1:Nat,v= .int .i64 (a1:Int)∧k≤a1∧a1≤s.size∧wx=wr∧Hid (zbX (strL s) val i left=zem (strL s) val true (zas (strL s) val true f false) a1 lf ks vs))
   case first=>
    cases fst with
    |true=>as_aux_lemma=>
     go_wp2_with fail
     go_meet
     case rel=>exact⟨k,rfl,Nat.le_refl _,hk,rfl,Lib.hid (HGO1.out (by first|rfl|trivial))⟩
    |false=>
     by_cases hcm:c=44
     ·as_aux_lemma=>
       have hklt:=HLT.out (by omega)
       have HSK2:=Lib.hid (fun W:World=>zcf s ((k:Int)+1) (k+1) W (by omega) (by omega) (by omega))
       have hsk:=zcz s.size (strL s) (k+1) (by rw[HLEN.out];omega) (by rw[HLEN.out];omega)
       rw[HLEN.out]at hsk
       have HST0:Hid (zbX (strL s) val i left=zem (strL s) val true (zas (strL s) val true f false) (zaY (strL s) (k+1)) lf ks vs):=Lib.hid (HGO.out.trans ((if_neg (by decide)).trans (if_neg (fun h=>h hcm))))
       obtain⟨a1,ha1⟩: ∃a,a=zaY (strL s) (k+1):=⟨_,rfl⟩
       rw[←ha1]at HSK2 hsk HST0
       obtain⟨m1,m2⟩:=zbl hcm
       clear HGO hcm ha1
       go_wp2_with(first|(go_at_call 127;(with_reducible refine(HC.out _).mono ?_);rintro e w' ⟨rfl,rfl⟩)|(go_at_call 95;(with_reducible refine(HSK2.out _).mono ?_);rintro e w' ⟨rfl,rfl⟩))
       go_meet
       case rel=>exact⟨a1,rfl,by omega,hsk.2,rfl,HST0⟩
     ·as_aux_lemma=>
       have HR:Hid (zbX (strL s) val i left=(zeroJ,k,lf,50)):=Lib.hid (HGO.out.trans ((if_neg (by decide)).trans (if_pos hcm)))
       obtain⟨m1,m2⟩:=zbd hcm
       clear HGO hcm
       go_wp2_with(first|(go_at_call 127;(with_reducible refine(HC.out _).mono ?_);rintro e w' ⟨rfl,rfl⟩)|(refine zaQ rfl none rfl _ (.tmp 8) _ rfl W.heap.size 0 [.int .i64 0,.int .i64 0,.string ⟨#[]⟩,.slice none 0 0,.slice none 0 0] rfl rfl _ _ hb8 (by simp[zeros5]) zaa (by intro v hv;simp at hv;rcases hv with rfl|rfl|rfl|rfl|rfl<;>rfl) ?_;intro w9 hb9 hgr;rw[zaW _ _ (by simp[zeros5])]at hb9;have HB9:=Lib.hid (Below.grown HB.out hgr (Below.size HB.out) (by intro k hk;injection hk with hk;omega));have HG9:=Lib.hid hgr;clear hgr;try go_frame))
       refine bodyPost_ret (v:= .tuple #[.agg #[.int .i64 0,.int .i64 0,.string ⟨#[]⟩,.slice none 0 0,.slice none 0 0],.int .i64 (k:Int),.int .i64 lf,.int .i64 50]) (zak Tryz.results132 _ _ W.heap.size _ [.int .i64 0,.int .i64 0,.string ⟨#[]⟩,.slice none 0 0,.slice none 0 0] _ rfl hb9 Tryz.underlying27 rfl zaa) rfl ?_
       rw[HR.out]
       exact⟨_,rfl,RepS.zero _ _,HB9.out⟩
   case rest=>
    obtain⟨a1,rfl,hka,has,hwx,HST0⟩:=hcut
    replace hwx:=hwx.symm
    subst hwx
    clear HGO HGO1 HC o1 o2 HLT
    go_upto_if 55 with fail
    go_cut[1,15]from 35 to 139 (fun v u wb=> ∃(a3:Nat) (T:ByteArray),v= .int .i64 (a3:Int)∧u= .string T∧T.size≤30000∧k≤a3∧a3≤s.size∧Below wr.heap.size wr wb∧Hid (zbX (strL s) val i left=zfb (strL s) val true (zas (strL s) val true f false) a3 lf T ks vs))
    case first=>
     skip
     have HQ:=Lib.hid (fun W:World=>zhe s a1 W (by omega) (by omega))
     have hql:=zct (strL s) a1
     have hqn:=zfW (strL s) a1
     have hqg:=zet (strL s) a1
     obtain⟨r,hr⟩: ∃r,r=zah (strL s) a1:=⟨_,rfl⟩
     have HSTEP:Hid (zbX (strL s) val i left=if r.2.2≠0 then(zeroJ,r.2.1,lf,r.2.2)else if hasK ks (toS r.1)=true then(zeroJ,a1,lf,52)else if atL (strL s) (zaY (strL s) r.2.1)≠58 then(zeroJ,zaY (strL s) r.2.1,lf,50)else zfb (strL s) val true (zas (strL s) val true f false) (zaY (strL s) (zaY (strL s) r.2.1+1)) lf (toS r.1) ks vs):=Lib.hid (by rw[HST0.out,hr];rfl)
     rw[←hr]at HQ hql hqn hqg
     obtain⟨t,b,er⟩:=r
     rw[HLEN.out]at hql hqn
     simp only at HQ hql hqn hqg HSTEP
     obtain⟨T,hT⟩: ∃T,T=toS t:=⟨_,rfl⟩
     have hTs:T.size≤30000:=by rw[hT,zap];omega
     rw[←hT]at HQ HSTEP
     clear hr hT hqn HST0
     by_cases her:er=0
     ·have HS2:Hid (zbX (strL s) val i left=if hasK ks T=true then(zeroJ,a1,lf,52)else if atL (strL s) (zaY (strL s) b)≠58 then(zeroJ,zaY (strL s) b,lf,50)else zfb (strL s) val true (zas (strL s) val true f false) (zaY (strL s) (zaY (strL s) b+1)) lf T ks vs):=Lib.hid (HSTEP.out.trans (if_neg (fun h=>h her)))
      have hbs:=hql her
      have hbg:=hqg her
      obtain⟨q1,q2⟩:=zbl her
      have HGET:=Lib.hid (fun(W':World) (ha:RepJ W' (.mk 5 0 ⟨#[]⟩ vs ks) (.agg #[.int .i64 5,.int .i64 0,.string ⟨#[]⟩,vL,vK]))=>zgK (.mk 5 0 ⟨#[]⟩ vs ks) _ T W' ha (by omega))
      have hhas:(getJ (.mk 5 0 ⟨#[]⟩ vs ks) T).isSome=hasK ks T:=getL_has T HKL.out
      rw[hhas]at HGET
      obtain⟨y,hy⟩: ∃y,y=(getJ (.mk 5 0 ⟨#[]⟩ vs ks) T).getD zeroJ:=⟨_,rfl⟩
      rw[←hy]at HGET
      obtain⟨g,hg⟩: ∃g,g=hasK ks T:=⟨_,rfl⟩
      rw[←hg]at HGET HS2
      clear HSTEP her hql hqg hhas hy hg
      cases g with
      |true=>as_aux_lemma=>
       have HR:Hid (zbX (strL s) val i left=(zeroJ,a1,lf,52)):=Lib.hid (HS2.out.trans (if_pos rfl))
       clear HS2
       go_wp2_with(first|(go_at_call 131;(with_reducible refine(HQ.out _).mono ?_);rintro e wq ⟨rfl,hbq⟩;have HBQ:=Lib.hid hbq;have hb8q:=Blk.below hb8 hbq hb8.lt;have hb13q:=Blk.below hb13 hbq hb13.lt;have HBQ2:=Lib.hid (HB.out.trans (hbq.mono HB.out.size));obtain⟨q0,q1,q2,q3,q4⟩:wq.cell? ⟨W.heap.size+1,0,none⟩=some (.int .i64 5)∧wq.cell? ⟨W.heap.size+1,1,none⟩=some (.int .i64 0)∧wq.cell? ⟨W.heap.size+1,2,none⟩=some (.string ⟨#[]⟩)∧wq.cell? ⟨W.heap.size+1,3,none⟩=some (vL)∧wq.cell? ⟨W.heap.size+1,4,none⟩=some (vK):=⟨hb13q.cell 0,hb13q.cell 1,hb13q.cell 2,hb13q.cell 3,hb13q.cell 4⟩;clear hbq)|(go_at_call 14;(with_reducible refine(HGET.out _ (RepS.toJ _ _ (RepS.keeps (Keeps.below HBQ.out (fun _ _ h=>h)) (fun _ h _=>h) _ _ HOR.out))).mono ?_);rintro e wg ⟨v0,rfl,hv0,hbg⟩;obtain⟨vk0,B,b9,rfl,_,hk0,_,_⟩:=hv0.open;obtain⟨M,m9,rfl,_,_⟩:=hk0.open;obtain⟨y0,hy0⟩: ∃a,a=y.kind:=⟨_,rfl⟩;obtain⟨y1,hy1⟩: ∃a,a=y.n:=⟨_,rfl⟩;obtain⟨y2,hy2⟩: ∃a,a=y.s:=⟨_,rfl⟩;obtain⟨y3,hy3⟩: ∃a,a=y.l.length:=⟨_,rfl⟩;obtain⟨y4,hy4⟩: ∃a,a=y.k.length:=⟨_,rfl⟩;rw[←hy0,←hy1,←hy2,←hy3,←hy4];clear hy0 hy1 hy2 hy3 hy4 hv0 hk0;have HBG:=Lib.hid (HBQ.out.trans (hbg.mono HBQ.out.size));clear hbg)|(refine zaK rfl (some 19) rfl _ rfl _ zdY ?_;intro g19 wa hg19 hb19 hgra;have HGA:=Lib.hid hgra;have HG19:=Lib.hid hg19;clear hgra hg19;try go_frame)|(refine zaQ rfl none rfl _ (.tmp 19) _ rfl g19 0 [.int .i64 y0,.int .i64 y1,.string y2,.slice B y3 b9,.slice M y4 m9] rfl rfl _ _ hb19 (by simp[zeros5]) zaa (by intro v hv;simp at hv;rcases hv with rfl|rfl|rfl|rfl|rfl<;>rfl) ?_;intro wb hb19' hgrb;have HWB:=Lib.hid (zao HBG.out HGA.out HG19.out hgrb);have HWBZ:=Lib.hid (Nat.le_trans hsz HWB.out.size);clear hgrb hb19';have hb8b:=Blk.below hb8 HWB.out hb8.lt;have hb13b:=Blk.below hb13 HWB.out hb13.lt;have HBB:=Lib.hid (HB.out.trans (HWB.out.mono HB.out.size));obtain⟨p0,p1,p2,p3,p4⟩:wb.cell? ⟨W.heap.size+1,0,none⟩=some (.int .i64 5)∧wb.cell? ⟨W.heap.size+1,1,none⟩=some (.int .i64 0)∧wb.cell? ⟨W.heap.size+1,2,none⟩=some (.string ⟨#[]⟩)∧wb.cell? ⟨W.heap.size+1,3,none⟩=some (vL)∧wb.cell? ⟨W.heap.size+1,4,none⟩=some (vK):=⟨hb13b.cell 0,hb13b.cell 1,hb13b.cell 2,hb13b.cell 3,hb13b.cell 4⟩;try go_frame)|(refine zaQ rfl none rfl _ (.tmp 8) _ rfl W.heap.size 0 [.int .i64 0,.int .i64 0,.string ⟨#[]⟩,.slice none 0 0,.slice none 0 0] rfl rfl _ _ hb8b (by simp[zeros5]) zaa (by intro v hv;simp at hv;rcases hv with rfl|rfl|rfl|rfl|rfl<;>rfl) ?_;intro w9 hb9 hgr;rw[zaW _ _ (by simp[zeros5])]at hb9;have HB9:=Lib.hid (Below.grown HBB.out hgr (Below.size HBB.out) (by intro k hk;injection hk with hk;omega));have HG9:=Lib.hid hgr;clear hgr;try go_frame))
       refine bodyPost_ret (v:= .tuple #[.agg #[.int .i64 0,.int .i64 0,.string ⟨#[]⟩,.slice none 0 0,.slice none 0 0],.int .i64 (a1:Int),.int .i64 lf,.int .i64 52]) (zak Tryz.results132 _ _ W.heap.size _ [.int .i64 0,.int .i64 0,.string ⟨#[]⟩,.slice none 0 0,.slice none 0 0] _ rfl hb9 Tryz.underlying27 rfl zaa) rfl ?_
       rw[HR.out]
       exact⟨_,rfl,RepS.zero _ _,HB9.out⟩
      |false=>
       have HSKB:=Lib.hid (fun W:World=>zdf s b W (by omega) hbs)
       have hsb:=zcz s.size (strL s) b (by rw[HLEN.out];omega) (by rw[HLEN.out];omega)
       rw[HLEN.out]at hsb
       have HS3:Hid (zbX (strL s) val i left=if atL (strL s) (zaY (strL s) b)≠58 then(zeroJ,zaY (strL s) b,lf,50)else zfb (strL s) val true (zas (strL s) val true f false) (zaY (strL s) (zaY (strL s) b+1)) lf T ks vs):=Lib.hid (HS2.out.trans (if_neg (by decide)))
       obtain⟨a2,ha2⟩: ∃a,a=zaY (strL s) b:=⟨_,rfl⟩
       rw[←ha2]at HSKB hsb HS3
       have HCA:=Lib.hid (fun W:World=>zay s a2 W (by omega) (by omega))
       have HLT2:Hid (atL (strL s) a2≠ -1→a2<s.size):=Lib.hid (fun h=>by rw[←HLEN.out];exact zav h)
       clear HS2 ha2
       by_cases h58:atL (strL s) a2=58
       ·as_aux_lemma=>
         have ha2l:=HLT2.out (by omega)
         have HSKC:=Lib.hid (fun W:World=>zcf s ((a2:Int)+1) (a2+1) W (by omega) (by omega) (by omega))
         have hsc:=zcz s.size (strL s) (a2+1) (by rw[HLEN.out];omega) (by rw[HLEN.out];omega)
         rw[HLEN.out]at hsc
         have HS4:Hid (zbX (strL s) val i left=zfb (strL s) val true (zas (strL s) val true f false) (zaY (strL s) (a2+1)) lf T ks vs):=Lib.hid (HS3.out.trans (if_neg (fun h=>h h58)))
         obtain⟨a3,ha3⟩: ∃a,a=zaY (strL s) (a2+1):=⟨_,rfl⟩
         rw[←ha3]at HSKC hsc HS4
         rw[h58]at HCA
         clear HS3 h58 ha3 HLT2
         go_wp2_with(first|(go_at_call 131;(with_reducible refine(HQ.out _).mono ?_);rintro e wq ⟨rfl,hbq⟩;have HBQ:=Lib.hid hbq;have hb8q:=Blk.below hb8 hbq hb8.lt;have hb13q:=Blk.below hb13 hbq hb13.lt;have HBQ2:=Lib.hid (HB.out.trans (hbq.mono HB.out.size));obtain⟨q0,q1,q2,q3,q4⟩:wq.cell? ⟨W.heap.size+1,0,none⟩=some (.int .i64 5)∧wq.cell? ⟨W.heap.size+1,1,none⟩=some (.int .i64 0)∧wq.cell? ⟨W.heap.size+1,2,none⟩=some (.string ⟨#[]⟩)∧wq.cell? ⟨W.heap.size+1,3,none⟩=some (vL)∧wq.cell? ⟨W.heap.size+1,4,none⟩=some (vK):=⟨hb13q.cell 0,hb13q.cell 1,hb13q.cell 2,hb13q.cell 3,hb13q.cell 4⟩;clear hbq)|(go_at_call 14;(with_reducible refine(HGET.out _ (RepS.toJ _ _ (RepS.keeps (Keeps.below HBQ.out (fun _ _ h=>h)) (fun _ h _=>h) _ _ HOR.out))).mono ?_);rintro e wg ⟨v0,rfl,hv0,hbg⟩;obtain⟨vk0,B,b9,rfl,_,hk0,_,_⟩:=hv0.open;obtain⟨M,m9,rfl,_,_⟩:=hk0.open;obtain⟨y0,hy0⟩: ∃a,a=y.kind:=⟨_,rfl⟩;obtain⟨y1,hy1⟩: ∃a,a=y.n:=⟨_,rfl⟩;obtain⟨y2,hy2⟩: ∃a,a=y.s:=⟨_,rfl⟩;obtain⟨y3,hy3⟩: ∃a,a=y.l.length:=⟨_,rfl⟩;obtain⟨y4,hy4⟩: ∃a,a=y.k.length:=⟨_,rfl⟩;rw[←hy0,←hy1,←hy2,←hy3,←hy4];clear hy0 hy1 hy2 hy3 hy4 hv0 hk0;have HBG:=Lib.hid (HBQ.out.trans (hbg.mono HBQ.out.size));clear hbg)|(refine zaK rfl (some 19) rfl _ rfl _ zdY ?_;intro g19 wa hg19 hb19 hgra;have HGA:=Lib.hid hgra;have HG19:=Lib.hid hg19;clear hgra hg19;try go_frame)|(refine zaQ rfl none rfl _ (.tmp 19) _ rfl g19 0 [.int .i64 y0,.int .i64 y1,.string y2,.slice B y3 b9,.slice M y4 m9] rfl rfl _ _ hb19 (by simp[zeros5]) zaa (by intro v hv;simp at hv;rcases hv with rfl|rfl|rfl|rfl|rfl<;>rfl) ?_;intro wb hb19' hgrb;have HWB:=Lib.hid (zao HBG.out HGA.out HG19.out hgrb);have HWBZ:=Lib.hid (Nat.le_trans hsz HWB.out.size);clear hgrb hb19';have hb8b:=Blk.below hb8 HWB.out hb8.lt;have hb13b:=Blk.below hb13 HWB.out hb13.lt;have HBB:=Lib.hid (HB.out.trans (HWB.out.mono HB.out.size));obtain⟨p0,p1,p2,p3,p4⟩:wb.cell? ⟨W.heap.size+1,0,none⟩=some (.int .i64 5)∧wb.cell? ⟨W.heap.size+1,1,none⟩=some (.int .i64 0)∧wb.cell? ⟨W.heap.size+1,2,none⟩=some (.string ⟨#[]⟩)∧wb.cell? ⟨W.heap.size+1,3,none⟩=some (vL)∧wb.cell? ⟨W.heap.size+1,4,none⟩=some (vK):=⟨hb13b.cell 0,hb13b.cell 1,hb13b.cell 2,hb13b.cell 3,hb13b.cell 4⟩;try go_frame)|(go_at_call 95;(with_reducible refine(HSKB.out _).mono ?_);rintro e w' ⟨rfl,rfl⟩)|(go_at_call 127;(with_reducible refine(HCA.out _).mono ?_);rintro e w' ⟨rfl,rfl⟩)|(go_at_call 95;(with_reducible refine(HSKC.out _).mono ?_);rintro e w' ⟨rfl,rfl⟩))
         go_meet
         case rel=>exact⟨a3,T,rfl,rfl,hTs,by omega,hsc.2,HWB.out,HS4⟩
       ·as_aux_lemma=>
         have HR:Hid (zbX (strL s) val i left=(zeroJ,a2,lf,50)):=Lib.hid (HS3.out.trans (if_pos h58))
         obtain⟨c0,hc0⟩: ∃c,c=atL (strL s) a2:=⟨_,rfl⟩
         rw[←hc0]at HCA h58
         obtain⟨u1,u2⟩:=zbd h58
         clear h58 HS3 hc0 HLT2
         go_wp2_with(first|(go_at_call 131;(with_reducible refine(HQ.out _).mono ?_);rintro e wq ⟨rfl,hbq⟩;have HBQ:=Lib.hid hbq;have hb8q:=Blk.below hb8 hbq hb8.lt;have hb13q:=Blk.below hb13 hbq hb13.lt;have HBQ2:=Lib.hid (HB.out.trans (hbq.mono HB.out.size));obtain⟨q0,q1,q2,q3,q4⟩:wq.cell? ⟨W.heap.size+1,0,none⟩=some (.int .i64 5)∧wq.cell? ⟨W.heap.size+1,1,none⟩=some (.int .i64 0)∧wq.cell? ⟨W.heap.size+1,2,none⟩=some (.string ⟨#[]⟩)∧wq.cell? ⟨W.heap.size+1,3,none⟩=some (vL)∧wq.cell? ⟨W.heap.size+1,4,none⟩=some (vK):=⟨hb13q.cell 0,hb13q.cell 1,hb13q.cell 2,hb13q.cell 3,hb13q.cell 4⟩;clear hbq)|(go_at_call 14;(with_reducible refine(HGET.out _ (RepS.toJ _ _ (RepS.keeps (Keeps.below HBQ.out (fun _ _ h=>h)) (fun _ h _=>h) _ _ HOR.out))).mono ?_);rintro e wg ⟨v0,rfl,hv0,hbg⟩;obtain⟨vk0,B,b9,rfl,_,hk0,_,_⟩:=hv0.open;obtain⟨M,m9,rfl,_,_⟩:=hk0.open;obtain⟨y0,hy0⟩: ∃a,a=y.kind:=⟨_,rfl⟩;obtain⟨y1,hy1⟩: ∃a,a=y.n:=⟨_,rfl⟩;obtain⟨y2,hy2⟩: ∃a,a=y.s:=⟨_,rfl⟩;obtain⟨y3,hy3⟩: ∃a,a=y.l.length:=⟨_,rfl⟩;obtain⟨y4,hy4⟩: ∃a,a=y.k.length:=⟨_,rfl⟩;rw[←hy0,←hy1,←hy2,←hy3,←hy4];clear hy0 hy1 hy2 hy3 hy4 hv0 hk0;have HBG:=Lib.hid (HBQ.out.trans (hbg.mono HBQ.out.size));clear hbg)|(refine zaK rfl (some 19) rfl _ rfl _ zdY ?_;intro g19 wa hg19 hb19 hgra;have HGA:=Lib.hid hgra;have HG19:=Lib.hid hg19;clear hgra hg19;try go_frame)|(refine zaQ rfl none rfl _ (.tmp 19) _ rfl g19 0 [.int .i64 y0,.int .i64 y1,.string y2,.slice B y3 b9,.slice M y4 m9] rfl rfl _ _ hb19 (by simp[zeros5]) zaa (by intro v hv;simp at hv;rcases hv with rfl|rfl|rfl|rfl|rfl<;>rfl) ?_;intro wb hb19' hgrb;have HWB:=Lib.hid (zao HBG.out HGA.out HG19.out hgrb);have HWBZ:=Lib.hid (Nat.le_trans hsz HWB.out.size);clear hgrb hb19';have hb8b:=Blk.below hb8 HWB.out hb8.lt;have hb13b:=Blk.below hb13 HWB.out hb13.lt;have HBB:=Lib.hid (HB.out.trans (HWB.out.mono HB.out.size));obtain⟨p0,p1,p2,p3,p4⟩:wb.cell? ⟨W.heap.size+1,0,none⟩=some (.int .i64 5)∧wb.cell? ⟨W.heap.size+1,1,none⟩=some (.int .i64 0)∧wb.cell? ⟨W.heap.size+1,2,none⟩=some (.string ⟨#[]⟩)∧wb.cell? ⟨W.heap.size+1,3,none⟩=some (vL)∧wb.cell? ⟨W.heap.size+1,4,none⟩=some (vK):=⟨hb13b.cell 0,hb13b.cell 1,hb13b.cell 2,hb13b.cell 3,hb13b.cell 4⟩;try go_frame)|(go_at_call 95;(with_reducible refine(HSKB.out _).mono ?_);rintro e w' ⟨rfl,rfl⟩)|(go_at_call 127;(with_reducible refine(HCA.out _).mono ?_);rintro e w' ⟨rfl,rfl⟩)|(refine zaQ rfl none rfl _ (.tmp 8) _ rfl W.heap.size 0 [.int .i64 0,.int .i64 0,.string ⟨#[]⟩,.slice none 0 0,.slice none 0 0] rfl rfl _ _ hb8b (by simp[zeros5]) zaa (by intro v hv;simp at hv;rcases hv with rfl|rfl|rfl|rfl|rfl<;>rfl) ?_;intro w9 hb9 hgr;rw[zaW _ _ (by simp[zeros5])]at hb9;have HB9:=Lib.hid (Below.grown HBB.out hgr (Below.size HBB.out) (by intro k hk;injection hk with hk;omega));have HG9:=Lib.hid hgr;clear hgr;try go_frame))
         refine bodyPost_ret (v:= .tuple #[.agg #[.int .i64 0,.int .i64 0,.string ⟨#[]⟩,.slice none 0 0,.slice none 0 0],.int .i64 (a2:Int),.int .i64 lf,.int .i64 50]) (zak Tryz.results132 _ _ W.heap.size _ [.int .i64 0,.int .i64 0,.string ⟨#[]⟩,.slice none 0 0,.slice none 0 0] _ rfl hb9 Tryz.underlying27 rfl zaa) rfl ?_
         rw[HR.out]
         exact⟨_,rfl,RepS.zero _ _,HB9.out⟩
     ·as_aux_lemma=>
       have HR:Hid (zbX (strL s) val i left=(zeroJ,b,lf,er)):=Lib.hid (HSTEP.out.trans (if_pos her))
       obtain⟨q1,q2⟩:=zbd her
       clear HSTEP her hql hqg
       go_wp2_with(first|(go_at_call 131;(with_reducible refine(HQ.out _).mono ?_);rintro e wq ⟨rfl,hbq⟩;have HBQ:=Lib.hid hbq;have hb8q:=Blk.below hb8 hbq hb8.lt;have hb13q:=Blk.below hb13 hbq hb13.lt;have HBQ2:=Lib.hid (HB.out.trans (hbq.mono HB.out.size));obtain⟨q0,q1,q2,q3,q4⟩:wq.cell? ⟨W.heap.size+1,0,none⟩=some (.int .i64 5)∧wq.cell? ⟨W.heap.size+1,1,none⟩=some (.int .i64 0)∧wq.cell? ⟨W.heap.size+1,2,none⟩=some (.string ⟨#[]⟩)∧wq.cell? ⟨W.heap.size+1,3,none⟩=some (vL)∧wq.cell? ⟨W.heap.size+1,4,none⟩=some (vK):=⟨hb13q.cell 0,hb13q.cell 1,hb13q.cell 2,hb13q.cell 3,hb13q.cell 4⟩;clear hbq)|(refine zaQ rfl none rfl _ (.tmp 8) _ rfl W.heap.size 0 [.int .i64 0,.int .i64 0,.string ⟨#[]⟩,.slice none 0 0,.slice none 0 0] rfl rfl _ _ hb8q (by simp[zeros5]) zaa (by intro v hv;simp at hv;rcases hv with rfl|rfl|rfl|rfl|rfl<;>rfl) ?_;intro w9 hb9 hgr;rw[zaW _ _ (by simp[zeros5])]at hb9;have HB9:=Lib.hid (Below.grown HBQ2.out hgr (Below.size HBQ2.out) (by intro k hk;injection hk with hk;omega));have HG9:=Lib.hid hgr;clear hgr;try go_frame))
       refine bodyPost_ret (v:= .tuple #[.agg #[.int .i64 0,.int .i64 0,.string ⟨#[]⟩,.slice none 0 0,.slice none 0 0],.int .i64 (b:Int),.int .i64 lf,.int .i64 er]) (zak Tryz.results132 _ _ W.heap.size _ [.int .i64 0,.int .i64 0,.string ⟨#[]⟩,.slice none 0 0,.slice none 0 0] _ rfl hb9 Tryz.underlying27 rfl zaa) rfl ?_
       rw[HR.out]
       exact⟨_,rfl,RepS.zero _ _,HB9.out⟩
    case rest=>
     obtain⟨a3,T,rfl,rfl,hTs,hk3,ha3s,hwb,HS4⟩:=hcut
     rename World=>wb
     have HWB:=Lib.hid hwb
     have HWBZ:=Lib.hid (Nat.le_trans hsz hwb.size)
     have hb8b:=Blk.below hb8 hwb hb8.lt
     have hb13b:=Blk.below hb13 hwb hb13.lt
     have HBB:=Lib.hid (HB.out.trans (hwb.mono HB.out.size))
     obtain⟨p0,p1,p2,p3,p4⟩:wb.cell? ⟨W.heap.size+1,0,none⟩=some (.int .i64 5)∧wb.cell? ⟨W.heap.size+1,1,none⟩=some (.int .i64 0)∧wb.cell? ⟨W.heap.size+1,2,none⟩=some (.string ⟨#[]⟩)∧wb.cell? ⟨W.heap.size+1,3,none⟩=some (vL)∧wb.cell? ⟨W.heap.size+1,4,none⟩=some (vK):=⟨hb13b.cell 0,hb13b.cell 1,hb13b.cell 2,hb13b.cell 3,hb13b.cell 4⟩
     clear hwb HST0
     have HVC:=Lib.hid (fun W:World=>HV.out.calls a3 lf W (by omega) hf0 hf1)
     have hmv:=HV.out.moves a3 lf (by omega) hf0 hf1
     obtain⟨r,hr⟩: ∃r,r=val a3 lf:=⟨_,rfl⟩
     have HIT:Hid (zbX (strL s) val i left=if r.2.2.2≠0 then(zeroJ,r.2.1,r.2.2.1,r.2.2.2)else if atL (strL s) r.2.1≠44∧atL (strL s) r.2.1≠125 then(zeroJ,r.2.1,r.2.2.1,50)else zas (strL s) val true f false r.2.1 r.2.2.1 (zaw T r.1 false ks vs).1 (zaw T r.1 false ks vs).2):=Lib.hid (by
      rw[HS4.out,hr];rfl)
     rw[←hr]at HVC hmv
     clear hr HS4
     obtain⟨x,p,n,ev⟩:=r
     by_cases he:ev=0
     ·obtain⟨mv0,mv1,n0,n1⟩:a3<p∧p≤s.size∧0≤n∧n≤256:=hmv he
      have HC2:=Lib.hid (fun W:World=>zay s p W (by omega) (by omega))
      have HIT2:Hid (zbX (strL s) val i left=if atL (strL s) p≠44∧atL (strL s) p≠125 then(zeroJ,p,n,50)else zas (strL s) val true f false p n (zaw T x false ks vs).1 (zaw T x false ks vs).2):=Lib.hid (HIT.out.trans (if_neg (fun h=>h he)))
      have HPUT:=Lib.hid (fun(W':World) (vx:Value) (h1:RepS W' (fun b=>W.heap.size+2≤b∧b<W'.heap.size) (.mk 5 0 ⟨#[]⟩ vs ks) (.agg #[.int .i64 5,.int .i64 0,.string ⟨#[]⟩,vL,vK])) (h2:RepS W' (fun b=>W.heap.size+2≤b∧b<W'.heap.size) x vx)=>refPut_obj 5 0 ⟨#[]⟩ ks vs T x (.agg #[.int .i64 5,.int .i64 0,.string ⟨#[]⟩,vL,vK]) vx W' (fun b=>W.heap.size+2≤b∧b<W'.heap.size) (fun b h=>h.2) h1 h2 HKL.out (by omega) (by omega))
      have hpl:=putKL_len T x ks false vs
      unfold PutTells at HPUT
      obtain⟨P,hP⟩: ∃P,P=zaw T x false ks vs:=⟨_,rfl⟩
      rw[←hP]at HPUT HIT2 hpl
      obtain⟨pl0,pl1⟩:=hpl
      rw[if_neg (by decide)]at pl1
      obtain⟨v1,v2⟩:=zbl he
      obtain⟨c2,hc2⟩: ∃c,c=atL (strL s) p:=⟨_,rfl⟩
      rw[←hc2]at HC2 HIT2
      clear he hmv HIT hc2 hP
      by_cases h44:c2=44
      ·as_aux_lemma=>
        obtain⟨g1,g2⟩:=zbl h44
        have HR:Hid (zbX (strL s) val i left=zas (strL s) val true f false p n P.1 P.2):=Lib.hid (HIT2.out.trans (if_neg (fun h=>h.1 h44)))
        clear h44 HIT2
        go_wp2_with(first|(go_at_call 94;(with_reducible refine(HVC.out _).mono ?_);rintro e w1 ⟨v,rfl,hrep,hbv⟩;obtain⟨vk,A,c9,rfl,_,⟨K,d9,rfl,_,_⟩,_,_⟩:=hrep.open;obtain⟨x0,hx0⟩: ∃a,a=x.kind:=⟨_,rfl⟩;obtain⟨x1,hx1⟩: ∃a,a=x.n:=⟨_,rfl⟩;obtain⟨x2,hx2⟩: ∃a,a=x.s:=⟨_,rfl⟩;obtain⟨x3,hx3⟩: ∃a,a=x.l.length:=⟨_,rfl⟩;obtain⟨x4,hx4⟩: ∃a,a=x.k.length:=⟨_,rfl⟩;rw[←hx0,←hx1,←hx2,←hx3,←hx4]at hrep⊢;have HREP:=Lib.hid hrep;have HBV:=Lib.hid hbv;clear hrep hx0 hx1 hx2 hx3 hx4 hbv)|(refine zaK rfl (some 21) rfl _ rfl _ zdY ?_;intro g21 w2 hg21 hb21 hgr2;have HG2:=Lib.hid hgr2;have HG21:=Lib.hid hg21;clear hgr2 hg21;try go_frame)|(refine zaQ rfl none rfl _ (.tmp 21) _ rfl g21 0 [.int .i64 x0,.int .i64 x1,.string x2,.slice A x3 c9,.slice K x4 d9] rfl rfl _ _ hb21 (by simp[zeros5]) zaa (by intro v hv;simp at hv;rcases hv with rfl|rfl|rfl|rfl|rfl<;>rfl) ?_;intro w3 hb21' hgr3;rw[zaW _ _ (by simp[zeros5])]at hb21';have HW3:=Lib.hid (zao HBV.out HG2.out HG21.out hgr3);have HX3:=Lib.hid (RepS.keeps (zca HG2.out HG21.out hgr3) (fun _ h _=>h) _ _ HREP.out);clear hgr3;have HB3:=Lib.hid (HBB.out.trans (HW3.out.mono HBB.out.size));have hb8':=Blk.below hb8b HW3.out hb8b.lt;have hb13':=Blk.below hb13b HW3.out hb13b.lt;obtain⟨b0,b1,b2,b3,b4⟩:w3.cell? ⟨W.heap.size+1,0,none⟩=some (.int .i64 5)∧w3.cell? ⟨W.heap.size+1,1,none⟩=some (.int .i64 0)∧w3.cell? ⟨W.heap.size+1,2,none⟩=some (.string ⟨#[]⟩)∧w3.cell? ⟨W.heap.size+1,3,none⟩=some (vL)∧w3.cell? ⟨W.heap.size+1,4,none⟩=some (vK):=⟨hb13'.cell 0,hb13'.cell 1,hb13'.cell 2,hb13'.cell 3,hb13'.cell 4⟩;obtain⟨d0,d1,d2,d3,d4⟩:w3.cell? ⟨g21,0,none⟩=some (.int .i64 x0)∧w3.cell? ⟨g21,1,none⟩=some (.int .i64 x1)∧w3.cell? ⟨g21,2,none⟩=some (.string x2)∧w3.cell? ⟨g21,3,none⟩=some (.slice A x3 c9)∧w3.cell? ⟨g21,4,none⟩=some (.slice K x4 d9):=⟨hb21'.cell 0,hb21'.cell 1,hb21'.cell 2,hb21'.cell 3,hb21'.cell 4⟩;try go_frame)|(go_at_call 11;(with_reducible refine(HPUT.out w3 _ (RepS.keeps (Keeps.below (HWB.out.trans (HW3.out.mono HWB.out.size)) (fun _ _ h=>h)) (fun b h hl=>⟨h,Nat.lt_of_lt_of_le hl (HWB.out.trans (HW3.out.mono HWB.out.size)).size⟩) _ _ HOR.out) (RepS.keeps (Keeps.refl _ _) (fun b h hl=>⟨Nat.le_trans HWBZ.out h,hl⟩) _ _ HX3.out)).mono ?_);rintro e w4 ⟨vp,rfl,hrp,hbp⟩;obtain⟨vkp,Ap,cp,rfl,_,⟨Kp,dp,rfl,_,_⟩,_,_⟩:=hrp.open;have HRP:=Lib.hid hrp;have HBP:=Lib.hid hbp;have hb13p:=Blk.below hb13' hbp hb13'.lt;have hb8p:=Blk.below hb8' hbp hb8'.lt;clear hrp hbp)|(refine zaQ rfl none rfl _ (.tmp 13) _ rfl (W.heap.size+1) 0 [.int .i64 5,.int .i64 0,.string ⟨#[]⟩,.slice Ap P.2.length cp,.slice Kp P.1.length dp] rfl rfl _ _ hb13p (by simp) zaa (by intro v hv;simp at hv;rcases hv with rfl|rfl|rfl|rfl|rfl<;>rfl) ?_;intro w5 hb5x hgr5;rw[zaW _ _ (by simp)]at hb5x;have HI2:=Lib.hid (ObjInv.put HI.out (HWB.out.trans ((HW3.out.mono HWB.out.size).trans (HBP.out.mono (Nat.le_trans HWB.out.size HW3.out.size)))) (RepS.keeps (Keeps.refl _ _) (fun b h _=>h.elim (fun h=>h.1) (fun h=>Nat.le_trans HWBZ.out (Nat.le_trans HW3.out.size h))) _ _ HRP.out) hb5x hgr5);clear hgr5;try go_frame)|(go_at_call 127;(with_reducible refine(HC2.out _).mono ?_);rintro e w' ⟨rfl,rfl⟩))
        go_roundw
        case rel=>exact⟨p,f,n,false,P.1,P.2,_,_,rfl,rfl,rfl,mv1,by omega,n0,n1,by omega,pl0,HR.out,HI2.out⟩
        case measure=>simp[intOf];omega
      ·obtain⟨g1,g2⟩:=zbd h44
       by_cases h125:c2=125
       ·as_aux_lemma=>
         obtain⟨g3,g4⟩:=zbl h125
         have HR:Hid (zbX (strL s) val i left=zas (strL s) val true f false p n P.1 P.2):=Lib.hid (HIT2.out.trans (if_neg (fun h=>h.2 h125)))
         clear h44 h125 HIT2
         go_wp2_with(first|(go_at_call 94;(with_reducible refine(HVC.out _).mono ?_);rintro e w1 ⟨v,rfl,hrep,hbv⟩;obtain⟨vk,A,c9,rfl,_,⟨K,d9,rfl,_,_⟩,_,_⟩:=hrep.open;obtain⟨x0,hx0⟩: ∃a,a=x.kind:=⟨_,rfl⟩;obtain⟨x1,hx1⟩: ∃a,a=x.n:=⟨_,rfl⟩;obtain⟨x2,hx2⟩: ∃a,a=x.s:=⟨_,rfl⟩;obtain⟨x3,hx3⟩: ∃a,a=x.l.length:=⟨_,rfl⟩;obtain⟨x4,hx4⟩: ∃a,a=x.k.length:=⟨_,rfl⟩;rw[←hx0,←hx1,←hx2,←hx3,←hx4]at hrep⊢;have HREP:=Lib.hid hrep;have HBV:=Lib.hid hbv;clear hrep hx0 hx1 hx2 hx3 hx4 hbv)|(refine zaK rfl (some 21) rfl _ rfl _ zdY ?_;intro g21 w2 hg21 hb21 hgr2;have HG2:=Lib.hid hgr2;have HG21:=Lib.hid hg21;clear hgr2 hg21;try go_frame)|(refine zaQ rfl none rfl _ (.tmp 21) _ rfl g21 0 [.int .i64 x0,.int .i64 x1,.string x2,.slice A x3 c9,.slice K x4 d9] rfl rfl _ _ hb21 (by simp[zeros5]) zaa (by intro v hv;simp at hv;rcases hv with rfl|rfl|rfl|rfl|rfl<;>rfl) ?_;intro w3 hb21' hgr3;rw[zaW _ _ (by simp[zeros5])]at hb21';have HW3:=Lib.hid (zao HBV.out HG2.out HG21.out hgr3);have HX3:=Lib.hid (RepS.keeps (zca HG2.out HG21.out hgr3) (fun _ h _=>h) _ _ HREP.out);clear hgr3;have HB3:=Lib.hid (HBB.out.trans (HW3.out.mono HBB.out.size));have hb8':=Blk.below hb8b HW3.out hb8b.lt;have hb13':=Blk.below hb13b HW3.out hb13b.lt;obtain⟨b0,b1,b2,b3,b4⟩:w3.cell? ⟨W.heap.size+1,0,none⟩=some (.int .i64 5)∧w3.cell? ⟨W.heap.size+1,1,none⟩=some (.int .i64 0)∧w3.cell? ⟨W.heap.size+1,2,none⟩=some (.string ⟨#[]⟩)∧w3.cell? ⟨W.heap.size+1,3,none⟩=some (vL)∧w3.cell? ⟨W.heap.size+1,4,none⟩=some (vK):=⟨hb13'.cell 0,hb13'.cell 1,hb13'.cell 2,hb13'.cell 3,hb13'.cell 4⟩;obtain⟨d0,d1,d2,d3,d4⟩:w3.cell? ⟨g21,0,none⟩=some (.int .i64 x0)∧w3.cell? ⟨g21,1,none⟩=some (.int .i64 x1)∧w3.cell? ⟨g21,2,none⟩=some (.string x2)∧w3.cell? ⟨g21,3,none⟩=some (.slice A x3 c9)∧w3.cell? ⟨g21,4,none⟩=some (.slice K x4 d9):=⟨hb21'.cell 0,hb21'.cell 1,hb21'.cell 2,hb21'.cell 3,hb21'.cell 4⟩;try go_frame)|(go_at_call 11;(with_reducible refine(HPUT.out w3 _ (RepS.keeps (Keeps.below (HWB.out.trans (HW3.out.mono HWB.out.size)) (fun _ _ h=>h)) (fun b h hl=>⟨h,Nat.lt_of_lt_of_le hl (HWB.out.trans (HW3.out.mono HWB.out.size)).size⟩) _ _ HOR.out) (RepS.keeps (Keeps.refl _ _) (fun b h hl=>⟨Nat.le_trans HWBZ.out h,hl⟩) _ _ HX3.out)).mono ?_);rintro e w4 ⟨vp,rfl,hrp,hbp⟩;obtain⟨vkp,Ap,cp,rfl,_,⟨Kp,dp,rfl,_,_⟩,_,_⟩:=hrp.open;have HRP:=Lib.hid hrp;have HBP:=Lib.hid hbp;have hb13p:=Blk.below hb13' hbp hb13'.lt;have hb8p:=Blk.below hb8' hbp hb8'.lt;clear hrp hbp)|(refine zaQ rfl none rfl _ (.tmp 13) _ rfl (W.heap.size+1) 0 [.int .i64 5,.int .i64 0,.string ⟨#[]⟩,.slice Ap P.2.length cp,.slice Kp P.1.length dp] rfl rfl _ _ hb13p (by simp) zaa (by intro v hv;simp at hv;rcases hv with rfl|rfl|rfl|rfl|rfl<;>rfl) ?_;intro w5 hb5x hgr5;rw[zaW _ _ (by simp)]at hb5x;have HI2:=Lib.hid (ObjInv.put HI.out (HWB.out.trans ((HW3.out.mono HWB.out.size).trans (HBP.out.mono (Nat.le_trans HWB.out.size HW3.out.size)))) (RepS.keeps (Keeps.refl _ _) (fun b h _=>h.elim (fun h=>h.1) (fun h=>Nat.le_trans HWBZ.out (Nat.le_trans HW3.out.size h))) _ _ HRP.out) hb5x hgr5);clear hgr5;try go_frame)|(go_at_call 127;(with_reducible refine(HC2.out _).mono ?_);rintro e w' ⟨rfl,rfl⟩))
         go_roundw
         case rel=>exact⟨p,f,n,false,P.1,P.2,_,_,rfl,rfl,rfl,mv1,by omega,n0,n1,by omega,pl0,HR.out,HI2.out⟩
         case measure=>simp[intOf];omega
       ·as_aux_lemma=>
         obtain⟨g3,g4⟩:=zbd h125
         have HR:Hid (zbX (strL s) val i left=(zeroJ,p,n,50)):=Lib.hid (HIT2.out.trans (if_pos ⟨h44,h125⟩))
         clear h44 h125 HIT2
         go_wp2_with(first|(go_at_call 94;(with_reducible refine(HVC.out _).mono ?_);rintro e w1 ⟨v,rfl,hrep,hbv⟩;obtain⟨vk,A,c9,rfl,_,⟨K,d9,rfl,_,_⟩,_,_⟩:=hrep.open;obtain⟨x0,hx0⟩: ∃a,a=x.kind:=⟨_,rfl⟩;obtain⟨x1,hx1⟩: ∃a,a=x.n:=⟨_,rfl⟩;obtain⟨x2,hx2⟩: ∃a,a=x.s:=⟨_,rfl⟩;obtain⟨x3,hx3⟩: ∃a,a=x.l.length:=⟨_,rfl⟩;obtain⟨x4,hx4⟩: ∃a,a=x.k.length:=⟨_,rfl⟩;rw[←hx0,←hx1,←hx2,←hx3,←hx4]at hrep⊢;have HREP:=Lib.hid hrep;have HBV:=Lib.hid hbv;clear hrep hx0 hx1 hx2 hx3 hx4 hbv)|(refine zaK rfl (some 21) rfl _ rfl _ zdY ?_;intro g21 w2 hg21 hb21 hgr2;have HG2:=Lib.hid hgr2;have HG21:=Lib.hid hg21;clear hgr2 hg21;try go_frame)|(refine zaQ rfl none rfl _ (.tmp 21) _ rfl g21 0 [.int .i64 x0,.int .i64 x1,.string x2,.slice A x3 c9,.slice K x4 d9] rfl rfl _ _ hb21 (by simp[zeros5]) zaa (by intro v hv;simp at hv;rcases hv with rfl|rfl|rfl|rfl|rfl<;>rfl) ?_;intro w3 hb21' hgr3;rw[zaW _ _ (by simp[zeros5])]at hb21';have HW3:=Lib.hid (zao HBV.out HG2.out HG21.out hgr3);have HX3:=Lib.hid (RepS.keeps (zca HG2.out HG21.out hgr3) (fun _ h _=>h) _ _ HREP.out);clear hgr3;have HB3:=Lib.hid (HBB.out.trans (HW3.out.mono HBB.out.size));have hb8':=Blk.below hb8b HW3.out hb8b.lt;have hb13':=Blk.below hb13b HW3.out hb13b.lt;obtain⟨b0,b1,b2,b3,b4⟩:w3.cell? ⟨W.heap.size+1,0,none⟩=some (.int .i64 5)∧w3.cell? ⟨W.heap.size+1,1,none⟩=some (.int .i64 0)∧w3.cell? ⟨W.heap.size+1,2,none⟩=some (.string ⟨#[]⟩)∧w3.cell? ⟨W.heap.size+1,3,none⟩=some (vL)∧w3.cell? ⟨W.heap.size+1,4,none⟩=some (vK):=⟨hb13'.cell 0,hb13'.cell 1,hb13'.cell 2,hb13'.cell 3,hb13'.cell 4⟩;obtain⟨d0,d1,d2,d3,d4⟩:w3.cell? ⟨g21,0,none⟩=some (.int .i64 x0)∧w3.cell? ⟨g21,1,none⟩=some (.int .i64 x1)∧w3.cell? ⟨g21,2,none⟩=some (.string x2)∧w3.cell? ⟨g21,3,none⟩=some (.slice A x3 c9)∧w3.cell? ⟨g21,4,none⟩=some (.slice K x4 d9):=⟨hb21'.cell 0,hb21'.cell 1,hb21'.cell 2,hb21'.cell 3,hb21'.cell 4⟩;try go_frame)|(go_at_call 11;(with_reducible refine(HPUT.out w3 _ (RepS.keeps (Keeps.below (HWB.out.trans (HW3.out.mono HWB.out.size)) (fun _ _ h=>h)) (fun b h hl=>⟨h,Nat.lt_of_lt_of_le hl (HWB.out.trans (HW3.out.mono HWB.out.size)).size⟩) _ _ HOR.out) (RepS.keeps (Keeps.refl _ _) (fun b h hl=>⟨Nat.le_trans HWBZ.out h,hl⟩) _ _ HX3.out)).mono ?_);rintro e w4 ⟨vp,rfl,hrp,hbp⟩;obtain⟨vkp,Ap,cp,rfl,_,⟨Kp,dp,rfl,_,_⟩,_,_⟩:=hrp.open;have HRP:=Lib.hid hrp;have HBP:=Lib.hid hbp;have hb13p:=Blk.below hb13' hbp hb13'.lt;have hb8p:=Blk.below hb8' hbp hb8'.lt;clear hrp hbp)|(refine zaQ rfl none rfl _ (.tmp 13) _ rfl (W.heap.size+1) 0 [.int .i64 5,.int .i64 0,.string ⟨#[]⟩,.slice Ap P.2.length cp,.slice Kp P.1.length dp] rfl rfl _ _ hb13p (by simp) zaa (by intro v hv;simp at hv;rcases hv with rfl|rfl|rfl|rfl|rfl<;>rfl) ?_;intro w5 hb5x hgr5;rw[zaW _ _ (by simp)]at hb5x;have HI2:=Lib.hid (ObjInv.put HI.out (HWB.out.trans ((HW3.out.mono HWB.out.size).trans (HBP.out.mono (Nat.le_trans HWB.out.size HW3.out.size)))) (RepS.keeps (Keeps.refl _ _) (fun b h _=>h.elim (fun h=>h.1) (fun h=>Nat.le_trans HWBZ.out (Nat.le_trans HW3.out.size h))) _ _ HRP.out) hb5x hgr5);clear hgr5;try go_frame)|(go_at_call 127;(with_reducible refine(HC2.out _).mono ?_);rintro e w' ⟨rfl,rfl⟩)|(refine zaQ rfl none rfl _ (.tmp 8) _ rfl W.heap.size 0 [.int .i64 0,.int .i64 0,.string ⟨#[]⟩,.slice none 0 0,.slice none 0 0] rfl rfl _ _ HI2.out.1 (by simp[zeros5]) zaa (by intro v hv;simp at hv;rcases hv with rfl|rfl|rfl|rfl|rfl<;>rfl) ?_;intro w9 hb9 hgr;rw[zaW _ _ (by simp[zeros5])]at hb9;have HB9:=Lib.hid (Below.grown HI2.out.2.2.2.1 hgr (Below.size HI2.out.2.2.2.1) (by intro k hk;injection hk with hk;omega));have HG9:=Lib.hid hgr;clear hgr;try go_frame))
         refine bodyPost_ret (v:= .tuple #[.agg #[.int .i64 0,.int .i64 0,.string ⟨#[]⟩,.slice none 0 0,.slice none 0 0],.int .i64 (p:Int),.int .i64 n,.int .i64 50]) (zak Tryz.results132 _ _ W.heap.size _ [.int .i64 0,.int .i64 0,.string ⟨#[]⟩,.slice none 0 0,.slice none 0 0] _ rfl hb9 Tryz.underlying27 rfl zaa) rfl ?_
         rw[HR.out]
         exact⟨_,rfl,RepS.zero _ _,HB9.out⟩
     ·as_aux_lemma=>
       have HR:Hid (zbX (strL s) val i left=(zeroJ,p,n,ev)):=Lib.hid (HIT.out.trans (if_pos he))
       obtain⟨v1,v2⟩:=zbd he
       clear he hmv HIT
       go_wp2_with(first|(go_at_call 94;(with_reducible refine(HVC.out _).mono ?_);rintro e w1 ⟨v,rfl,hrep,hbv⟩;obtain⟨vk,A,c9,rfl,_,⟨K,d9,rfl,_,_⟩,_,_⟩:=hrep.open;obtain⟨x0,hx0⟩: ∃a,a=x.kind:=⟨_,rfl⟩;obtain⟨x1,hx1⟩: ∃a,a=x.n:=⟨_,rfl⟩;obtain⟨x2,hx2⟩: ∃a,a=x.s:=⟨_,rfl⟩;obtain⟨x3,hx3⟩: ∃a,a=x.l.length:=⟨_,rfl⟩;obtain⟨x4,hx4⟩: ∃a,a=x.k.length:=⟨_,rfl⟩;rw[←hx0,←hx1,←hx2,←hx3,←hx4]at hrep⊢;have HREP:=Lib.hid hrep;have HBV:=Lib.hid hbv;clear hrep hx0 hx1 hx2 hx3 hx4 hbv)|(refine zaK rfl (some 21) rfl _ rfl _ zdY ?_;intro g21 w2 hg21 hb21 hgr2;have HG2:=Lib.hid hgr2;have HG21:=Lib.hid hg21;clear hgr2 hg21;try go_frame)|(refine zaQ rfl none rfl _ (.tmp 21) _ rfl g21 0 [.int .i64 x0,.int .i64 x1,.string x2,.slice A x3 c9,.slice K x4 d9] rfl rfl _ _ hb21 (by simp[zeros5]) zaa (by intro v hv;simp at hv;rcases hv with rfl|rfl|rfl|rfl|rfl<;>rfl) ?_;intro w3 hb21' hgr3;rw[zaW _ _ (by simp[zeros5])]at hb21';have HW3:=Lib.hid (zao HBV.out HG2.out HG21.out hgr3);have HX3:=Lib.hid (RepS.keeps (zca HG2.out HG21.out hgr3) (fun _ h _=>h) _ _ HREP.out);clear hgr3;have HB3:=Lib.hid (HBB.out.trans (HW3.out.mono HBB.out.size));have hb8':=Blk.below hb8b HW3.out hb8b.lt;have hb13':=Blk.below hb13b HW3.out hb13b.lt;try go_frame)|(refine zaQ rfl none rfl _ (.tmp 8) _ rfl W.heap.size 0 [.int .i64 0,.int .i64 0,.string ⟨#[]⟩,.slice none 0 0,.slice none 0 0] rfl rfl _ _ hb8' (by simp[zeros5]) zaa (by intro v hv;simp at hv;rcases hv with rfl|rfl|rfl|rfl|rfl<;>rfl) ?_;intro w9 hb9 hgr;rw[zaW _ _ (by simp[zeros5])]at hb9;have HB9:=Lib.hid (Below.grown HB3.out hgr (Below.size HB3.out) (by intro k hk;injection hk with hk;omega));have HG9:=Lib.hid hgr;clear hgr;try go_frame))
       refine bodyPost_ret (v:= .tuple #[.agg #[.int .i64 0,.int .i64 0,.string ⟨#[]⟩,.slice none 0 0,.slice none 0 0],.int .i64 (p:Int),.int .i64 n,.int .i64 ev]) (zak Tryz.results132 _ _ W.heap.size _ [.int .i64 0,.int .i64 0,.string ⟨#[]⟩,.slice none 0 0,.slice none 0 0] _ rfl hb9 Tryz.underlying27 rfl zaa) rfl ?_
       rw[HR.out]
       exact⟨_,rfl,RepS.zero _ _,HB9.out⟩
end Go.Proofs.YtjfgmgkhinehaaaGreatDoor
