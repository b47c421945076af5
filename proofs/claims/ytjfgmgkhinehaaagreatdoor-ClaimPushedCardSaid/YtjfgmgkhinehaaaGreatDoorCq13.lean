
import Derived.Deep.RegionWith
import Derived.Test.YtjfgmgkhinehaaaGreatDoorCq01
import Derived.Test.YtjfgmgkhinehaaaGreatDoorCq07
set_option maxRecDepth 100000
set_option maxHeartbeats 16000000
set_option linter.all false
namespace Go.Proofs.YtjfgmgkhinehaaaGreatDoor
open Go Go.RowKit
theorem zmh (s:ByteArray) (w:World) (hs:s.size≤1000000000):Calls Tryz.prog 75 #[.string s] w fun e w'=>e= .returned (.string s)∧Below w.heap.size w w':=by
 have HC:=Lib.hid (Tryz.stringslite_Clone s w (by omega))
 go_enter Tryz.func75,Tryz.ntmps75
 go_wp2_with(go_at_call 103;(with_reducible refine HC.out.mono ?_);rintro e w' ⟨rfl,hb⟩)
 go_ret
 exact⟨rfl,hb⟩
end Go.Proofs.YtjfgmgkhinehaaaGreatDoor
namespace Go.Proofs.YtjfgmgkhinehaaaGreatDoor
open Go Go.RowKit Go.Sort
theorem sortN_any (B:Nat) (w0 W:World) (v:Value) (n:Nat) (zs:List (List UInt8)) (hown:W.ownsRow B 9 1 v n (zs.map encStr)) (hb:Below w0.heap.size w0 W) (hB:w0.heap.size≤B) (hn:n≤2000000000):
  Calls Tryz.prog 138 #[v] W fun e w'=>e= .returned (.tuple #[])∧w'.ownsRow B 9 1 v n ((zs.mergeSort fun x y=>decide (x≤y)).map encStr)∧Below w0.heap.size w0 w':=by
 have hl:zs.length=n:=by simpa using hown.1
 subst hl
 rcases hown.2 with⟨rfl,h0⟩|⟨g,cap,cur,rfl,hbase,hg,h1,h2,h3,h4⟩
 ·have:zs=[]:=List.eq_nil_of_length_eq_zero h0
  subst this
  refine(Tryz.slices_Sort_string_none none 0 W).mono ?_
  rintro e w' ⟨rfl,rfl⟩
  exact⟨rfl,by simpa using hown,hb⟩
 ·have hlt:=(hown.lt g rfl).2
  have hH:=holds_of_block hg (by simpa using h4)
  refine(Tryz.slices_Sort_string g 0 cap zs W hH hlt (by omega)).mono ?_
  rintro e w' ⟨rfl,m,os,rfl⟩
  refine⟨rfl,ownsRow_sorted (by simp) hbase hg h1 h2 h3,hb.grown (grownBy_sorted _) hb.size (fun k hk=>by injection hk with hk;omega)⟩
theorem compactN_any (B:Nat) (w0 W:World) (v:Value) (n:Nat) (zs:List (List UInt8)) (hown:W.ownsRow B 9 1 v n (zs.map encStr)) (hb:Below w0.heap.size w0 W) (hB:w0.heap.size≤B) (hn:n≤2000000000):
  Calls Tryz.prog 139 #[v] W fun e w'=> ∃v',e= .returned v'∧w'.ownsRow B 9 1 v' (Lib.compact zs).length ((Lib.compact zs).map encStr)∧Below w0.heap.size w0 w':=by
 have hl:zs.length=n:=by simpa using hown.1
 subst hl
 rcases hown.2 with⟨rfl,h0⟩|⟨g,cap,cur,rfl,hbase,hg,h1,h2,h3,h4⟩
 ·have:zs=[]:=List.eq_nil_of_length_eq_zero h0
  subst this
  refine(Tryz.slices_Compact_string_empty none 0 W).mono ?_
  rintro e w' ⟨rfl,rfl⟩
  exact⟨_,rfl,by simpa[Lib.compact,Lib.compactUpTo]using hown,hb⟩
 ·have hlt:=(hown.lt g rfl).2
  have hH:=holds_of_block hg (by simpa using h4)
  have hcl:(Lib.compact zs).length≤zs.length:=by
   unfold Lib.compact Lib.compactUpTo
   rw[List.length_map]
   refine Nat.le_trans (List.length_filter_le _ _) ?_
   simp
  refine(Tryz.slices_Compact_string g 0 cap zs W hH (by omega) h1).mono ?_
  rintro e w' ⟨rfl,q,rfl⟩
  refine⟨_,rfl,?_,Lib.below_putRow hb (by omega)⟩
  have:=Lib.ownsRow_putRow (q:=q) (k:=(Lib.compact zs).length) (ys:=Lib.compact zs++List.replicate (zs.length-(Lib.compact zs).length) []) hown (by simp;omega) hcl
  rwa [List.take_left]at this
theorem strV_set (ns:List ByteArray):(Lib.compact ((ns.map nmL).mergeSort fun x y=>decide (x≤y))).map encStr=strV (setS ns):=by
 rw[←zll,strV,List.map_map]
 rfl
theorem len_set (ns:List ByteArray):(Lib.compact ((ns.map nmL).mergeSort fun x y=>decide (x≤y))).length=(setS ns).length:=by
 rw[←zll,List.length_map]
end Go.Proofs.YtjfgmgkhinehaaaGreatDoor
namespace Go.Proofs.YtjfgmgkhinehaaaGreatDoor
open Go Go.RowKit
theorem infoStrS:(Tryz.prog.info? 9).map (fun i=>(i.zero,i.size,i.bytes))=some (some (.string ByteArray.empty),1,16):=by kernel_rfl
structure StaysAsk (g:Nat) (caps:Array Value) (p:ByteArray→Bool) (w:World):Prop where
 enters: ∀args w,(callFunc g args).run Tryz.prog w= .ok (.enter g args) w
 call: ∀(W:World) (x:ByteArray),Below w.heap.size w W→x.size≤1000000000→Calls Tryz.prog g (#[.string x]++caps) W fun e w'=>e= .returned (.bool (p x))∧Below W.heap.size W w'
theorem zgn {w w':World} {B e z n:Nat} {v:Value} {xs:List Value} (h:w.ownsRow B e z v n xs) (hb:Below w.heap.size w w'):w'.ownsRow B e z v n xs:=
 h.kept (zad hb none) (Classical.em _)
theorem cell_lit1 (w:World) (x:ByteArray) (t:TypeId): ∀j u,[Value.string x][j]? =some u→(w.alloc (.cells #[.string x] t)).cell? ((⟨w.heap.size,0,none⟩:Addr).add j)=some u:=fun j u hj=>by
 match j,hj with
 |0,hj=>simp at hj;subst hj;simp[Addr.add]
theorem set_any (g:Nat) (caps:Array Value) (p:ByteArray→Bool) (lb lc m:Nat) (ls:List (Value×List ByteArray)) (w:World) (ha:StaysAsk g caps p w) (hlb:lb<w.heap.size) (hls:LiesLs w lb ls) (hm:ls.length=m) (hmc:m≤lc) (hm9:m≤1000) (htot:(zfk ls).length≤1000000000):
  Calls Tryz.prog 108 #[.func (.func g) #[] caps,.slice (some ⟨lb,0,none⟩) m lc] w fun e w'=> ∃v,e= .returned v∧SliceN w' v (setS ((zfk ls).filter p))∧Below w.heap.size w w':=by
 have HA:=Lib.hid ha
 have HLS:=Lib.hid hls
 have HM:=Lib.hid hm
 have HT:=Lib.hid htot
 have eg:=ha.enters
 obtain⟨iS,hS0,hS1,hS2,hS3⟩:=info_parts infoStrS
 clear ha hls hm htot
 obtain⟨F,hF⟩: ∃F,F=(zfk ls).filter p:=⟨_,rfl⟩
 rw[←hF]
 have HFE:=Lib.hid hF
 obtain⟨T,hT⟩: ∃T,T=setS F:=⟨_,rfl⟩
 rw[←hT]
 have HTE:=Lib.hid hT
 have HF9:Hid (NmOk F):=Lib.hid (by
  rw[hF]
  intro x hx
  obtain⟨⟨v,ns⟩,hv,hx2⟩:=List.mem_flatMap.1 (List.mem_filter.1 hx).1
  obtain⟨i,hi⟩:=List.mem_iff_getElem?.1 hv
  exact(HLS.out i v ns hi).2.ok x hx2)
 have HFL:Hid (F.length≤1000000000):=Lib.hid (by
  rw[hF]
  exact Nat.le_trans (List.length_filter_le _ _) HT.out)
 clear hF hT
 go_enter Tryz.func108,Tryz.ntmps108
 go_wp2
 go_loopw[5,14] (fun v i wr=> ∃(k n:Nat),k≤m∧i= .int .i64 (k:Int)∧n=((zfk (ls.take k)).filter p).length∧wr.ownsRow w.heap.size 9 1 v n (strV ((zfk (ls.take k)).filter p))∧Below w.heap.size w wr) (fun _ i _=>m-(intOf i).toNat)
 case atStart=>exact⟨0,0,Nat.zero_le _,rfl,rfl,World.ownsRow_nil _ _ _ _,Below.refl _ _⟩
 case round=>
  obtain⟨k,n,hk,rfl,hn,hown,hbel⟩:=hrel
  have HOW:=Lib.hid hown
  have HBE:=Lib.hid hbel
  have HN:=Lib.hid hn
  clear hown hbel hn
  by_cases hlt:k<m
  ·have hkl:k<ls.length:=by rw[HM.out];exact hlt
   obtain⟨vk,nk,hget⟩: ∃vk nk,ls[k]? =some (vk,nk):=⟨ls[k].1,ls[k].2,List.getElem?_eq_getElem hkl⟩
   obtain⟨c0,A,c,rfl,hc,hl,hok⟩:=HLS.out k vk nk hget
   have c1:=(HBE.out.cell (p:=⟨lb,k,none⟩) hlb).trans c0
   have HTK:=Lib.hid (zme hget)
   have HLE:=Lib.hid (flatN_le hget)
   have HL:=Lib.hid hl
   have HOK:=Lib.hid hok
   obtain⟨q,hq⟩: ∃q,q=nk.length:=⟨_,rfl⟩
   rw[←hq]at c1 hc
   have HQ:=Lib.hid hq
   have hq9:q≤1000000000:=by have:=HLE.out;have:=HT.out;omega
   obtain⟨P0,hP0⟩: ∃P0,P0=zfk (ls.take k):=⟨_,rfl⟩
   rw[←hP0]at HOW HN HTK HLE
   have hi0:(0:Int)≤(k:Int):=by omega
   have HKM:Hid (k<m):=Lib.hid hlt
   clear hkl hget c0 hl hok hq hP0
   go_wp2
   go_loopw[5,20] (fun v i w2=> ∃(j n:Nat),j≤q∧i= .int .i64 (j:Int)∧n=((P0++nk.take j).filter p).length∧w2.ownsRow w.heap.size 9 1 v n (strV ((P0++nk.take j).filter p))∧Below w.heap.size w w2) (fun _ i _=>q-(intOf i).toNat)
   case atStart=>exact⟨0,n,Nat.zero_le _,rfl,by rw[List.take_zero,List.append_nil];exact HN.out,by rw[List.take_zero,List.append_nil];exact HOW.out,HBE.out⟩
   case round=>
    clear HOW HBE HN c1
    obtain⟨j,n2,hj,rfl,hn,hown,hbel⟩:=hrel
    have HOW:=Lib.hid hown
    have HBE:=Lib.hid hbel
    have HN:=Lib.hid hn
    clear hown hbel hn
    by_cases hjt:j<q
    ·have hjl:j<nk.length:=by rw[←HQ.out];exact hjt
     obtain⟨b,o,rfl,_,hcell⟩:=(HL.out.below HBE.out).at hjl
     have hj0:(0:Int)≤(j:Int):=by omega
     have hox:=HOK.out _ (List.getElem_mem hjl)
     have HTJ:Hid ((P0++nk.take (j+1)).filter p=(P0++nk.take j).filter p++(if p nk[j]=true then[nk[j]]else[])):=Lib.hid (by
      rw[List.take_succ_eq_append_getElem hjl,←List.append_assoc,List.filter_append]
      congr 1
      cases h:p nk[j]<;>simp[h])
     have hlen:((P0++nk.take j).filter p).length≤1000000000:=by
      refine Nat.le_trans (List.length_filter_le _ _) ?_
      have:=HLE.out
      have:=HT.out
      simp only[List.length_append,List.length_take]
      omega
     rw[←HN.out]at hlen
     obtain⟨x,hx⟩: ∃x,x=nk[j]:=⟨_,rfl⟩
     rw[←hx]at hcell HTJ hox
     have HCALL:=Lib.hid (HA.out.call wr x HBE.out hox)
     clear hx hjl hox
     cases hp:p x with
     |true=>
      rw[hp]at HCALL HTJ
      rw[if_pos rfl]at HTJ
      clear hp
      have HS0:=Lib.hid HBE.out.size
      have HO3:=Lib.hid (fun(W:World) (hW:Below wr.heap.size wr W)=>zgn HOW.out hW)
      have HB3:=Lib.hid (fun(W:World) (hW:Below wr.heap.size wr W)=>HBE.out.trans (hW.mono HBE.out.size))
      have HT2:Hid (n2+1=((P0++nk.take (j+1)).filter p).length):=Lib.hid (by rw[HTJ.out,List.length_append,←HN.out];rfl)
      have HTV:Hid (strV ((P0++nk.take (j+1)).filter p)=strV ((P0++nk.take j).filter p)++[.string x]):=Lib.hid (by rw[HTJ.out,zcW];rfl)
      clear HTJ
      go_wp2_with fail
      refine HCALL.out.mono ?_
      rintro e w3 ⟨rfl,hb3⟩
      have HO4:=Lib.hid (HO3.out w3 hb3)
      have HB4:=Lib.hid (HB3.out w3 hb3)
      clear hb3 HO3 HB3 HOW HBE HCALL hcell
      have hjt2:=hjt
      have hs3:=HB4.out.size
      go_wp2_with(at_builtin;refine wpList_append_own _ rfl _ _ 22 rfl w.heap.size 9 iS (.string ByteArray.empty) 1 16 Tryz.underlying22 hS0 hS1 hS2 hS3 rfl (by decide) _ n2 _ rfl (HO4.out.alloc _) ⟨w3.heap.size,0,none⟩ 1 1 [.string x] rfl rfl (cell_lit1 _ _ _) (by simp[Value.oneCell']) (by unfold maxLen;omega) (by omega) (by simp;omega) ?_;intro v' w4 hown4 hgrow4 hnil4)
      have HO5:=Lib.hid hown4
      have HB5:=Lib.hid ((HB4.out.alloc hs3 (.cells #[.string x] 9)).grown hgrow4 (by simp;omega) (fun i hi=>(HO4.out.lt i hi).1))
      clear hown4 hgrow4 hnil4
      go_roundw
      case rel=>exact⟨j+1,n2+1,by omega,by go_num,HT2.out,by rw[HTV.out];exact HO5.out,HB5.out⟩
      case measure=>simp[intOf];omega
     |false=>
      rw[hp]at HCALL HTJ
      rw[if_neg (by simp),List.append_nil]at HTJ
      clear hp
      go_wp2_with fail
      refine HCALL.out.mono ?_
      rintro e w3 ⟨rfl,hb3⟩
      have HO4:=Lib.hid (zgn HOW.out hb3)
      have HB4:=Lib.hid (HBE.out.trans (hb3.mono HBE.out.size))
      clear hb3 HOW HBE HCALL hcell
      go_wp2
      go_roundw
      case rel=>exact⟨j+1,n2,by omega,by go_num,by rw[HTJ.out];exact HN.out,by rw[HTJ.out];exact HO4.out,HB4.out⟩
      case measure=>simp[intOf];omega
    ·obtain rfl:j=q:=by omega
     have HTJ:Hid (P0++nk.take j=zfk (ls.take (k+1))):=Lib.hid (by rw[HQ.out,List.take_length,HTK.out])
     clear hjt
     go_wp2
     rw[HTJ.out]at HN HOW
     go_roundw
     case rel=>have hkm:=HKM.out;exact⟨k+1,n2,hkm,by go_num,HN.out,HOW.out,HBE.out⟩
     case measure=>have:=HKM.out;simp[intOf];omega
  ·obtain rfl:k=m:=by omega
   have HALL:Hid (ls.take k=ls):=Lib.hid (by rw[←HM.out];exact List.take_length)
   rw[HALL.out]at HN HOW
   rw[←HFE.out]at HN HOW
   have hn9:n≤1000000000:=by rw[HN.out];exact HFL.out
   rw[strV_enc]at HOW
   have HSORT:=Lib.hid (sortN_any w.heap.size w wr u5 n (F.map nmL) HOW.out HBE.out (Nat.le_refl _) (by omega))
   clear hlt HALL HOW HN HBE
   go_wp2_with fail
   refine HSORT.out.mono ?_
   rintro e w1 ⟨rfl,ho1,hb1⟩
   have HCOMP:=Lib.hid (compactN_any w.heap.size w w1 u5 n _ ho1 hb1 (Nat.le_refl _) (by omega))
   clear ho1 hb1 HSORT
   go_wp2_with fail
   refine HCOMP.out.mono ?_
   rintro e w2 ⟨v2,rfl,ho2,hb2⟩
   rw[strV_set,len_set]at ho2
   rw[←HTE.out]at ho2
   have HOK2:Hid (NmOk T):=Lib.hid (by rw[HTE.out];exact HF9.out.sub fun x hx=>mem_setS.1 hx)
   have HLT:Hid (T.length≤1000000000):=Lib.hid (by
    have h1:=zdp F []
    have h2:=HFL.out
    rw[HTE.out]
    unfold setS
    simp at h1
    omega)
   obtain⟨t,ht⟩: ∃t,t=T.length:=⟨_,rfl⟩
   have HTL:=Lib.hid ht
   rw[←ht]at ho2 HLT
   have hlt9:=HLT.out
   have HO2:=Lib.hid ho2
   have HB2:=Lib.hid hb2
   rcases ho2.2 with⟨rfl,h0⟩|⟨gb,cap,cur,rfl,hbase,hg,h1,h2,h3,h4⟩
   ·have hT0:T=[]:=List.eq_nil_of_length_eq_zero (by omega)
    clear ho2 hb2 HCOMP HLT ht
    go_wp2
    refine wp_loop_rounds 1 ?_
    rw[rounds_succ]
    go_wp2
    go_ret
    rw[hT0]
    exact⟨_,rfl,SliceN.nil _,HB2.out⟩
   ·have HCUR:Hid (∀i (hi:i<T.length),cur.toList[i]? =some (.string T[i])):=Lib.hid (by
     intro i hi
     have e1:(cur.toList.take (t*1))[i]? =(strV T)[i]? :=by rw[h4]
     rw[List.getElem?_take,if_pos (by omega)]at e1
     rw[e1];simp[strV,hi])
    have hblk:Blk w2 gb 9 cur.toList:=by
     unfold Blk;rw[hg]
    clear ho2 hb2 HCOMP HLT ht hg h4 h3 h2
    have HGB:=Lib.hid hbase
    have htc:t≤cap:=h1
    clear h1 hbase
    go_wp2
    go_loopw[39] (fun i wr=> ∃k:Nat,k≤t∧i= .int .i64 (k:Int)∧Blk wr gb 9 cur.toList∧Below w.heap.size w wr) (fun i _=>t-(intOf i).toNat)
    case atStart=>exact⟨0,Nat.zero_le _,rfl,hblk,HB2.out⟩
    case round=>
     clear hblk HB2 HO2
     obtain⟨k,hk,rfl,hblk,hbel⟩:=hrel
     have HBE:=Lib.hid hbel
     have HBK:=Lib.hid hblk
     clear hbel hblk
     by_cases hlt:k<t
     ·have hkl:k<T.length:=by rw[←HTL.out];exact hlt
      have hcu:=HCUR.out k hkl
      have hcell:=(HBK.out.cell k).trans hcu
      have hfr:=HBK.out.frozen k
      have HSET:Hid (cur.toList.set k (.string T[k])=cur.toList):=Lib.hid (by
       obtain⟨hi,e⟩:=List.getElem?_eq_some_iff.1 hcu
       rw[←e];exact List.set_getElem_self hi)
      have HCL:=Lib.hid (fun W=>zmh T[k] W (HOK2.out _ (List.getElem_mem hkl)))
      obtain⟨x,hx⟩: ∃x,x=T[k]:=⟨_,rfl⟩
      rw[←hx]at hcell HSET HCL hcu
      have HCX:=Lib.hid hcu
      have hk0:(0:Int)≤(k:Int):=by omega
      have hktI:(k:Int)<(t:Int):=by omega
      clear hx hkl hcu
      go_wp2_with(go_at_call 75;(with_reducible refine(HCL.out _).mono ?_);rintro e w3 ⟨rfl,hb3⟩;have HBK3:=Lib.hid (HBK.out.below hb3 HBK.out.lt);have hcell3:=(HBK3.out.cell k).trans (HCX.out);have hfr3:=HBK3.out.frozen k;have HB3:=Lib.hid (HBE.out.trans (hb3.mono HBE.out.size));clear hb3)
      have HBK4:=Lib.hid (HBK3.out.setCell k (.string x))
      rw[HSET.out]at HBK4
      go_roundw
      case rel=>exact⟨k+1,by omega,by go_num,HBK4.out,HB3.out.setCell HGB.out _⟩
      case measure=>simp[intOf];omega
     ·obtain rfl:k=t:=by omega
      clear hlt
      go_wp2
      go_ret
      refine⟨.slice (some ⟨gb,0,none⟩) k cap,rfl,⟨some ⟨gb,0,none⟩,cap,by rw[HTL.out],by rw[←HTL.out];exact htc,fun hp=>⟨gb,0,rfl,HBK.out.lt,fun i x hi=> ?_⟩,HOK2.out⟩,HBE.out⟩
      rw[Nat.zero_add,HBK.out.cell]
      obtain⟨hi2,e⟩:=List.getElem?_eq_some_iff.1 hi
      rw[HCUR.out i hi2,e]
theorem zhx (zs:List ByteArray) (x:ByteArray):Lib.containsS zs x=hasN zs x:=by
 rw[Bool.eq_iff_iff,Lib.containsS_iff,hasN_iff]
theorem hasP_any (v:Value) (ns:List ByteArray) (x:ByteArray) (w:World) (h:SliceN w v ns) (hn:ns.length≤1000000000):
  Calls Tryz.prog 102 #[v,.string x] w fun e w'=>e= .returned (.bool (hasN ns x))∧w'=w:=by
 have key:Calls Tryz.prog 135 #[v,.string x] w fun e w'=>e= .returned (.bool (hasN ns x))∧w'=w:=by
  obtain⟨A,c,rfl,hc,hl,_⟩:=h
  by_cases h0:ns=[]
  ·subst h0
   exact Tryz.slices_Contains_string_empty A c x w
  ·obtain⟨b,o,rfl,hlt,hcell⟩:=hl h0
   refine(Tryz.slices_Contains_string b o ns.length c ns x w (Nat.le_refl _) (by omega) (fun j hj=> ?_)).mono ?_
   ·rw[hcell j _ (List.getElem?_eq_getElem hj)]
    simp[List.getD,hj]
   ·rintro e w' ⟨rfl,rfl⟩
    rw[List.take_length,zhx]
    exact⟨rfl,rfl⟩
 have HK:=Lib.hid key
 clear key h
 go_enter Tryz.func102,Tryz.ntmps102
 go_wp2_with(go_at_call 135;(with_reducible refine HK.out.mono ?_);rintro e w' ⟨rfl,rfl⟩)
 go_ret
 exact⟨rfl,rfl⟩
theorem liesLs2 (w:World) (va vb:Value) (a b:List ByteArray) (t:TypeId) (ha:SliceN w va a) (hb:SliceN w vb b):LiesLs (w.alloc (.cells #[va,vb] t)) w.heap.size [(va,a),(vb,b)]:=fun i v ns hi=>by
 match i,hi with
 |0,hi=>
  simp at hi
  obtain⟨rfl,rfl⟩:=hi
  exact⟨by simp,ha.below (zaf _ _)⟩
 |1,hi=>
  simp at hi
  obtain⟨rfl,rfl⟩:=hi
  exact⟨by simp,hb.below (zaf _ _)⟩
theorem staysAll (w:World):StaysAsk 109 #[] (fun _=>true) w where
 enters:=enters_of Tryz.func109 (by kernel_rfl) rfl
 call:=fun W x _ _=>by
  show Calls Tryz.prog 109 #[.string x] W _
  go_enter Tryz.func109,Tryz.ntmps109
  go_wp2
  go_ret
  exact⟨rfl,Below.refl _ _⟩
theorem scAll_any (va vb:Value) (a b:List ByteArray) (w:World) (ha:SliceN w va a) (hb:SliceN w vb b) (hn:a.length+b.length≤1000000000):
  Calls Tryz.prog 77 #[va,vb] w fun e w'=> ∃v,e= .returned v∧SliceN w' v (setS (a++b))∧Below w.heap.size w w':=by
 have HL:=Lib.hid (liesLs2 w va vb a b 22 ha hb)
 have HS:=Lib.hid (set_any 109 #[] (fun _=>true) w.heap.size 2 2 [(va,a),(vb,b)] (w.alloc (.cells #[va,vb] 22)) (staysAll _) (by simp) HL.out rfl (by omega) (by omega) (by simpa[zfk]using hn))
 obtain⟨A1,c1,rfl, -⟩:=ha
 obtain⟨A2,c2,rfl, -⟩:=hb
 go_enter Tryz.func77,Tryz.ntmps77
 go_wp2_with fail
 refine HS.out.mono ?_
 rintro e w1 ⟨v,rfl,hs,hb⟩
 have HSN:=Lib.hid hs
 have HB:=Lib.hid ((zaf w _).trans (hb.mono (zaf w _).size))
 clear hs hb
 go_wp2
 go_ret
 refine⟨_,rfl,?_,HB.out⟩
 have:=HSN.out
 rwa [show ∀u v:Value,(zfk [(u,a),(v,b)]).filter (fun _=>true)=a++b from fun u v=>by
  show(a++(b++[])).filter _=_
  rw[List.append_nil]
  exact List.filter_eq_self.2 (fun _ _=>rfl)]at this
end Go.Proofs.YtjfgmgkhinehaaaGreatDoor
