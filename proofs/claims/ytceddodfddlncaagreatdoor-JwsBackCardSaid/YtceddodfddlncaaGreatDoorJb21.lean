
import Derived.Test.YtceddodfddlncaaGreatDoorJb10
import Derived.Test.YtceddodfddlncaaGreatDoorJb20
set_option maxRecDepth 100000
set_option maxHeartbeats 16000000
set_option linter.all false
namespace Go.Proofs.YtceddodfddlncaaGreatDoor
open Go Go.RowKit
mutual
def zao:J→List Int
 | .mk kind n s l k=>
  if kind=0 then[110,117,108,108]else if kind=1 then(if n=0 then[102,97,108,115,101]else[116,114,117,101])else if kind=2 then prL n else if kind=3 then zar (strL s)
  else if kind=4 then[91]++zam false true l k++[93]else if kind=5 then[123]++zam true true l k++[125]else[]
def zam:Bool→Bool→List J→List ByteArray→List Int
 |_,_,[],_=>[]
 |o,f,x::r,k=>(if f=true then[]else[44])++((if o=true then zar (strL (k.headD ⟨#[]⟩))++[58]else[])++(zao x++zam o false r k.tail))
end
inductive Wrt:J→Prop
 |mk (kind n:Int) (s:ByteArray) (l:List J) (k:List ByteArray):0≤kind→kind≤5→ -9223372036854775808≤n→n≤9223372036854775807→s.size≤1000000000→(∀t∈k,t.size≤1000000000)→(kind=5→k.length=l.length)→(∀x∈l,Wrt x)→Wrt (.mk kind n s l k)
def WPost (W0 w:World) (wb:Nat) (acc t:List Int) (e:Ending) (w':World):Prop:= ∃acc',Wr acc t acc'∧zoQ W0 w wb acc' e w'
def WAsk (j:J):Prop:= ∀(W0 w:World) (wb:Nat) (acc:List Int) (v vj:Value),WSt W0 w wb acc v→RepJ W0 j vj→acc.length+(zao j).length≤10000000000000→
 Calls Tryz.prog 113 #[.pointer (some ⟨wb,0,none⟩),vj] w (WPost W0 w wb acc (zao j))
theorem itemsL_drop (o:Bool) (l:List J) (k:List ByteArray) (i:Nat) (hi:i<l.length) (f:Bool):zam o f (l.drop i) (k.drop i)=(if f=true then[]else[44])++((if o=true then zar (strL ((k.drop i).headD ⟨#[]⟩))++[58]else[])++(zao l[i]++zam o false (l.drop (i+1)) (k.drop (i+1)))):=by
 rw[List.drop_eq_getElem_cons hi,zam,List.tail_drop]
theorem itemsW_any (kind n:Int) (s:ByteArray) (l:List J) (k:List ByteArray) (ih: ∀x∈l,WAsk x) (hkd:kind=4∨kind=5) (hk5:kind=5→k.length=l.length) (hks: ∀t∈k,t.size≤1000000000) (op cl:ByteArray) (W0 w:World) (wb:Nat) (acc:List Int) (v:Value) (vj:Value) (hop:op.size=1) (hcl:cl.size=1)
  (hw:WSt W0 w wb acc v) (hj:RepJ W0 (.mk kind n s l k) vj) (hlen:acc.length+(strL op++zam (decide (kind=5)) true l k++strL cl).length≤10000000000000):
  Calls Tryz.prog 150 #[.pointer (some ⟨wb,0,none⟩),.string op,vj,.string cl] w (WPost W0 w wb acc (strL op++zam (decide (kind=5)) true l k++strL cl)):=by
 obtain⟨vk,A,c,rfl,_,hkk,hl,hc⟩:=hj.open
 obtain⟨K,dd,rfl,hkl,hkc⟩:=hkk.open
 change Calls _ _ #[_,_,.agg #[.int .i64 kind,.int .i64 n,.string s,.slice A l.length c,.slice K k.length dd],_] _ _
 have HC:=Lib.hid hc
 have HKC:=Lib.hid hkc
 have HIH:=Lib.hid ih
 have HK5:=Lib.hid hk5
 have HKS:=Lib.hid hks
 obtain⟨p,hp⟩: ∃p,p=l.length:=⟨_,rfl⟩
 obtain⟨q,hq⟩: ∃q,q=k.length:=⟨_,rfl⟩
 have HP:=Lib.hid hp
 have HQ:=Lib.hid hq
 replace hl:l.length≤9223372036854775807:=hl
 replace hkl:k.length≤9223372036854775807:=hkl
 rw[←hp]at hl⊢
 rw[←hq]at hkl⊢
 obtain⟨B,hB⟩: ∃B,B=w.heap.size:=⟨_,rfl⟩
 obtain⟨w1,hw1⟩: ∃z,z=w.alloc (.cells #[.int .i64 kind,.int .i64 n,.string s,.slice A p c,.slice K q dd] 63):=⟨_,rfl⟩
 have hgA:w.grownBy w1 none:=by rw[hw1];exact World.grownBy_alloc _ _ none
 have hX1:Blk w1 B 63 [.int .i64 kind,.int .i64 n,.string s,.slice A p c,.slice K q dd]:=by rw[hw1,hB];exact zhy w _ _
 have HX1:=Lib.hid hX1
 have HK1:=Lib.hid (KeepJ.grownN hgA)
 have hlen2:=hlen
 rw[List.length_append,List.length_append,zaQ,zaQ,hop,hcl]at hlen2
 have HPO:=Lib.hid (zdn W0 w1 wb acc v op (hw.moved hgA) (by omega))
 have HW1:=Lib.hid hw1
 have HB:=Lib.hid hB
 obtain⟨IT,hIT⟩: ∃z,z=zam (decide (kind=5)) true l k:=⟨_,rfl⟩
 have HIT:=Lib.hid hIT
 rw[←hIT]at hlen2⊢
 clear hw hj hkk hc hkc ih hk5 hks hp hq hB hw1 hgA hX1 hlen hIT
 go_enter Tryz.func150,Tryz.ntmps150
 go_wp2_with fail
 rw[show w.alloc (.cells #[.int .i64 kind,.int .i64 n,.string s,.slice A p c,.slice K q dd] 63)=w1 from HW1.out.symm,show w.heap.size=B from HB.out.symm]
 refine HPO.out.mono ?_
 rintro e w2 ⟨rfl,hw2,hk2⟩
 have HW2:=Lib.hid hw2
 have HK2:=Lib.hid (HK1.out.trans hk2)
 have hX2:=hk2.2 _ _ HX1.out
 have c3:w2.cell? ⟨B,3,none⟩=some (.slice A p c):=hX2.cell 3
 have HX2:=Lib.hid hX2
 clear hw2 hk2 hX2
 go_wp2_with fail
 go_loopw[16] (fun u wr=> ∃(i:Nat) (ai ti:List Int) (vi:Value),i≤p∧u= .int .i64 (i:Int)∧Wr acc ti ai∧Hid (ti++zam (decide (kind=5)) (decide (i=0)) (l.drop i) (k.drop i)=strL op++IT)∧WSt W0 wr wb ai vi∧Blk wr B 63 [.int .i64 kind,.int .i64 n,.string s,.slice A p c,.slice K q dd]∧KeepJ w wr) (fun u _=>p-(intOf u).toNat)
 case atStart=>
  obtain⟨v2,h2⟩:=HW2.out
  exact⟨0,_,strL op,v2,Nat.zero_le _,rfl,.inl rfl,Lib.hid (by rw[HIT.out];rfl),h2,HX2.out,HK2.out⟩
 case round=>
  obtain⟨i,ai,ti,vi,hi,rfl,hwr,HRUN,hst,hX,hKJ⟩:=hrel
  have hbl:=hwr.len
  have hrl:=congrArg List.length HRUN.out
  rw[List.length_append,List.length_append,zaQ,hop]at hrl
  by_cases hlt:i<p
  ·have hil:i<l.length:=by rw[←HP.out];exact hlt
   obtain⟨g,o,rfl,hg,hrep⟩:=HC.out (fun e=>by replace e:l=[]:=e;rw[e]at hil;exact absurd hil (Nat.not_lt_zero _))
   obtain⟨v1,hr1,hf1⟩:=hrep.at i hil
   obtain⟨A1,x3,c1,K1,x4,e1,rfl,z0,z1,z2,z3,z4⟩:=hr1.cells hf1
   have hbel:=hst.bel
   have z0':=(hbel.cell (p:=⟨g,o+i*5,none⟩) hg).trans z0
   have z1':=(hbel.cell (p:=⟨g,o+i*5+1,none⟩) hg).trans z1
   have z2':=(hbel.cell (p:=⟨g,o+i*5+2,none⟩) hg).trans z2
   have z3':=(hbel.cell (p:=⟨g,o+i*5+3,none⟩) hg).trans z3
   have z4':=(hbel.cell (p:=⟨g,o+i*5+4,none⟩) hg).trans z4
   have hdr:=itemsL_drop (decide (kind=5)) l k i hil (decide (i=0))
   have hIX:=HIH.out l[i] (List.getElem_mem hil)
   replace hr1:RepJ W0 l[i] (.agg #[.int .i64 l[i].kind,.int .i64 l[i].n,.string l[i].s,.slice A1 x3 c1,.slice K1 x4 e1]):=hr1
   replace z0':wr.cell? ⟨g,o+i*5,none⟩=some (.int .i64 l[i].kind):=z0'
   replace z1':wr.cell? ⟨g,o+i*5+1,none⟩=some (.int .i64 l[i].n):=z1'
   replace z2':wr.cell? ⟨g,o+i*5+2,none⟩=some (.string l[i].s):=z2'
   obtain⟨X,hX0⟩: ∃X,X=l[i]:=⟨_,rfl⟩
   rw[←hX0]at hdr hIX hr1 z0' z1' z2'
   obtain⟨x0,hx0⟩: ∃x,x=X.kind:=⟨_,rfl⟩
   obtain⟨x1,hx1⟩: ∃x,x=X.n:=⟨_,rfl⟩
   obtain⟨x2,hx2⟩: ∃x,x=X.s:=⟨_,rfl⟩
   rw[←hx0,←hx1,←hx2]at hr1
   rw[←hx0]at z0'
   rw[←hx1]at z1'
   rw[←hx2]at z2'
   have hgA:=World.grownBy_alloc wr (.cells #[.int .i64 x0,.int .i64 x1,.string x2,.slice A1 x3 c1,.slice K1 x4 e1] 63) none
   obtain⟨w3,hw3⟩: ∃z,z=wr.alloc (.cells #[.int .i64 x0,.int .i64 x1,.string x2,.slice A1 x3 c1,.slice K1 x4 e1] 63):=⟨_,rfl⟩
   rw[←hw3]at hgA
   have hY3:Blk w3 wr.heap.size 63 [.int .i64 x0,.int .i64 x1,.string x2,.slice A1 x3 c1,.slice K1 x4 e1]:=by rw[hw3];exact zhy wr _ _
   obtain⟨Y,hY⟩: ∃Y,Y=wr.heap.size:=⟨_,rfl⟩
   rw[←hY]at hY3
   have HY3:=Lib.hid hY3
   have HX3:=Lib.hid (hX.grownN hgA)
   have HST3:=Lib.hid (hst.moved hgA)
   have HKJ3:=Lib.hid (hKJ.trans (KeepJ.grownN hgA))
   have HR1:=Lib.hid hr1
   have HIX:=Lib.hid hIX
   have HDR:=Lib.hid hdr
   have HW3:=Lib.hid hw3
   have HY:=Lib.hid hY
   have HWR:=Lib.hid hwr
   have hi0:(0:Int)≤(i:Int):=by omega
   have hi1:(i:Int)<(p:Int):=by omega
   have hNM:kind=5→ ∃b o2 t,K=some ⟨b,o2,none⟩∧(∀W',Below W0.heap.size W0 W'→W'.cell? ⟨b,o2+i,none⟩=some (.string t))∧(k.drop i).headD ⟨#[]⟩=t∧t.size≤1000000000∧i<q:=fun h5=>by
    have hik:i<k.length:=by rw[HK5.out h5];exact hil
    obtain⟨b,o2,e',hb',_,hcell'⟩:=HKC.out i hik
    exact⟨b,o2,k[i],e',fun W' hW=>(hW.cell (p:=⟨b,o2+i,none⟩) hb').trans hcell',by rw[List.drop_eq_getElem_cons hik];rfl,HKS.out _ (List.getElem_mem hik),by rw[HQ.out];exact hik⟩
   have HNM:=Lib.hid hNM
   clear hst hX hKJ hrep hf1 z0 z1 z2 z3 z4 hbel hdr hIX hX0 hx0 hx1 hx2 hgA hw3 hY3 hr1 hY hwr hNM
   go_upto_if 22 with fail
   rw[show wr.alloc (.cells #[.int .i64 x0,.int .i64 x1,.string x2,.slice A1 x3 c1,.slice K1 x4 e1] 63)=w3 from HW3.out.symm,show wr.heap.size=Y from HY.out.symm]
   clear z0' z1' z2' z3' z4'
   have hdl:=congrArg List.length HDR.out
   simp only[List.length_append]at hdl
   have hcw:=HST3.out.blk.lt
   go_cut[]from 17 to 40 (fun wx=> ∃(a2:List Int) (v2:Value),Wr acc (ti++(if decide (i=0)=true then[]else[44])) a2∧WSt W0 wx wb a2 v2∧KeepJ w3 wx)
   case first=>
    by_cases h0:i=0
    ·have hz: ¬(0:Int)<(i:Int):=by omega
     have hif:(if decide (i=0)=true then[]else[44]:List Int)=[]:=by rw[decide_eq_true h0];rfl
     have HIF:=Lib.hid hif
     clear h0 hif
     go_wp2_with fail
     go_meet
     case rel=>exact⟨ai,vi,by rw[HIF.out,List.append_nil];exact HWR.out,HST3.out,KeepJ.refl _⟩
    ·have hz:(0:Int)<(i:Int):=by omega
     have hif:(if decide (i=0)=true then[]else[44]:List Int)=[44]:=by rw[decide_eq_false h0];rfl
     have HIF:=Lib.hid hif
     have HPC:=Lib.hid (zdn W0 w3 wb ai vi ⟨#[44]⟩ HST3.out (by show ai.length+1≤_;omega))
     clear h0 hif
     go_wp2_with(go_at_call 146;(with_reducible refine HPC.out.mono ?_);rintro e_ w' ⟨rfl,hw,hk⟩;have HF:=Lib.hid (And.intro hw hk);clear hw hk)
     go_meet
     case rel=>
      obtain⟨v2,h2⟩:=HF.out.1
      exact⟨_,v2,by rw[HIF.out];exact HWR.out.trans (.inl rfl),h2,HF.out.2⟩
   case rest=>
    obtain⟨a2,v2,hwr2,hst2,hkj2⟩:=hcut
    rename World=>w4
    have hX4:=hkj2.2 _ _ HX3.out
    have hY4:=hkj2.2 _ _ HY3.out
    have b0:w4.cell? ⟨B,0,none⟩=some (.int .i64 kind):=hX4.cell 0
    have b4:w4.cell? ⟨B,4,none⟩=some (.slice K q dd):=hX4.cell 4
    have HX4:=Lib.hid hX4
    have HY4:=Lib.hid hY4
    have HW4:=Lib.hid hwr2
    have HST4:=Lib.hid hst2
    have HKJ4:=Lib.hid (HKJ3.out.trans hkj2)
    have hl2:=hwr2.len
    simp only[List.length_append]at hl2
    clear hX4 hY4 hwr2 hst2 hkj2
    go_upto_if 27 with fail
    go_cut[]from 17 to 40 (fun wx=> ∃(a3:List Int) (v3:Value),Wr acc ((ti++(if decide (i=0)=true then[]else[44]))++(if decide (kind=5)=true then zar (strL ((k.drop i).headD ⟨#[]⟩))++[58]else[])) a3∧WSt W0 wx wb a3 v3∧KeepJ w4 wx)
    case first=>
     by_cases h5:kind=5
     ·obtain⟨b,o2,t,rfl,hcell,hhd,hts,hiq⟩:=HNM.out h5
      have hif:(if decide (kind=5)=true then zar (strL ((k.drop i).headD ⟨#[]⟩))++[58]else[]:List Int)=zar (strL t)++[58]:=by rw[decide_eq_true h5,hhd];rfl
      have HIF:=Lib.hid hif
      rw[hif,List.length_append]at hdl
      have hz:(kind==5)=true:=by rw[beq_iff_eq];exact h5
      have hc4:=hcell w4 HST4.out.bel
      have HQW:=Lib.hid (zjo W0 w4 wb a2 v2 t HST4.out hts (by omega))
      have hiq':(i:Int)<(q:Int):=by omega
      have HPC:=Lib.hid (fun(W':World) (a:List Int) (v':Value) (h:WSt W0 W' wb a v') (ha:a.length≤20000000000000)=>zdn W0 W' wb a v' ⟨#[58]⟩ h (by show a.length+1≤_;omega))
      clear h5 hif hcell hhd
      go_wp2_with(first
       |(go_at_call 149;(with_reducible refine HQW.out.mono ?_);rintro e_ w5 ⟨a5,hq5,rfl,⟨v5,hs5⟩,hk5⟩;have HQ5:=Lib.hid hq5;have HS5:=Lib.hid hs5;have HK5':=Lib.hid hk5;have hl5:=hq5.len;clear hq5 hs5 hk5)
       |(go_at_call 146;(with_reducible refine(HPC.out _ _ _ HS5.out (by omega)).mono ?_);rintro e_ w6 ⟨rfl,hw,hk⟩;have HF:=Lib.hid (And.intro hw hk);clear hw hk))
      go_meet
      case rel=>
       obtain⟨v6,h6⟩:=HF.out.1
       exact⟨_,v6,by rw[HIF.out];exact HW4.out.trans (HQ5.out.trans (.inl rfl)),h6,HK5'.out.trans HF.out.2⟩
     ·have hif:(if decide (kind=5)=true then zar (strL ((k.drop i).headD ⟨#[]⟩))++[58]else[]:List Int)=[]:=by rw[decide_eq_false h5];rfl
      have HIF:=Lib.hid hif
      have hz:(kind==5)=false:=by rw[beq_eq_false_iff_ne];exact h5
      clear h5 hif
      go_wp2_with fail
      go_meet
      case rel=>exact⟨a2,v2,by rw[HIF.out,List.append_nil];exact HW4.out,HST4.out,KeepJ.refl _⟩
    case rest=>
     obtain⟨a3,v3,hwr3,hst3,hkj3⟩:=hcut
     rename World=>w5
     have hX5:=hkj3.2 _ _ HX4.out
     have hY5:=hkj3.2 _ _ HY4.out
     have hl3:=hwr3.len
     simp only[List.length_append]at hl3
     have HCALL:=Lib.hid (HIX.out W0 w5 wb a3 v3 _ hst3 HR1.out (by omega))
     have y0:w5.cell? ⟨Y,0,none⟩=some (.int .i64 x0):=hY5.cell 0
     have y1:w5.cell? ⟨Y,1,none⟩=some (.int .i64 x1):=hY5.cell 1
     have y2:w5.cell? ⟨Y,2,none⟩=some (.string x2):=hY5.cell 2
     have y3:w5.cell? ⟨Y,3,none⟩=some (.slice A1 x3 c1):=hY5.cell 3
     have y4:w5.cell? ⟨Y,4,none⟩=some (.slice K1 x4 e1):=hY5.cell 4
     have HX5:=Lib.hid hX5
     have HW5:=Lib.hid hwr3
     have HKJ5:=Lib.hid (HKJ4.out.trans hkj3)
     clear hX5 hY5 hwr3 hst3 hkj3 b0 b4
     go_wp2_with(go_at_call 113;(with_reducible refine HCALL.out.mono ?_);rintro e_ w6 ⟨a6,hq6,rfl,hs6,hk6⟩;have HQ6:=Lib.hid hq6;have HS6:=Lib.hid hs6;have HK6:=Lib.hid hk6;clear hq6 hs6 hk6)
     go_roundw
     case rel=>
      obtain⟨v6,h6⟩:=HS6.out
      refine⟨i+1,a6,_,v6,by omega,by go_num,HW5.out.trans HQ6.out,Lib.hid ?_,h6,HK6.out.2 _ _ HX5.out,HKJ5.out.trans HK6.out⟩
      rw[←HRUN.out,HDR.out,decide_eq_false (show ¬i+1=0 by omega)]
      simp only[List.append_assoc]
     case measure=>simp[intOf];omega
  ·obtain rfl:i=p:=by omega
   have hnl: ¬(i:Int)<(i:Int):=by omega
   have hnil:zam (decide (kind=5)) (decide (i=0)) (l.drop i) (k.drop i)=[]:=by rw[List.drop_of_length_le (by rw[←HP.out];exact Nat.le_refl _),zam]
   have HEND:Hid (ti=strL op++IT):=Lib.hid (by rw[←HRUN.out,hnil,List.append_nil])
   have HPC:=Lib.hid (zdn W0 wr wb ai vi cl hst (by rw[hcl];omega))
   have HWR:=Lib.hid hwr
   have HKJ:=Lib.hid hKJ
   clear hst hX hKJ hwr hnil
   go_wp2_with(go_at_call 146;(with_reducible refine HPC.out.mono ?_);rintro e_ w6 ⟨rfl,hw,hk⟩;have HF:=Lib.hid (And.intro hw hk);clear hw hk)
   go_end0
   exact⟨_,by rw[←HEND.out];exact HWR.out.trans (.inl rfl),rfl,HF.out.1,HKJ.out.trans HF.out.2⟩
theorem zhv (n:Int) (h0: -9223372036854775808≤n) (h1:n≤9223372036854775807):Bytes (prL n)∧(prL n).length≤20:=by
 have hl:(digL n.natAbs).length≤19:=znr 18 n.natAbs (by omega)
 have hb:Bytes (digL n.natAbs):= .of_mem fun x hx=>by have:=zcr _ x hx;omega
 unfold prL
 split
 ·exact⟨.of_mem fun x hx=>by
   rcases List.mem_cons.1 hx with rfl|hx
   ·omega
   ·exact hb.mem hx,by rw[List.length_cons];omega⟩
 ·exact⟨hb,by omega⟩
theorem valueW_of (kind n:Int) (s:ByteArray) (l:List J) (k:List ByteArray) (k0:0≤kind) (k5:kind≤5) (n0: -9223372036854775808≤n) (n1:n≤9223372036854775807) (hs:s.size≤1000000000) (hks: ∀t∈k,t.size≤1000000000) (hkl:kind=5→k.length=l.length) (ih: ∀x∈l,WAsk x):WAsk (.mk kind n s l k):=fun W0 w wb acc v vj hw hj hlen=>by
 have HIT:=Lib.hid (fun(op cl:ByteArray) (W':World) (vj:Value) (h1:op.size=1) (h2:cl.size=1) (h4:kind=4∨kind=5) (h:WSt W0 W' wb acc v) (hj:RepJ W0 (.mk kind n s l k) vj) hlen=>itemsW_any kind n s l k ih h4 hkl hks op cl W0 W' wb acc v vj h1 h2 h hj hlen)
 have HJ:=Lib.hid hj
 obtain⟨vk,A,c,rfl,_,hkk,hl,hc⟩:=hj.open
 obtain⟨K,dd,rfl,hkl',hkc⟩:=hkk.open
 change Calls _ _ #[_,.agg #[.int .i64 kind,.int .i64 n,.string s,.slice A l.length c,.slice K k.length dd]] _ _
 replace HJ:Hid (RepJ W0 (.mk kind n s l k) (.agg #[.int .i64 kind,.int .i64 n,.string s,.slice A l.length c,.slice K k.length dd])):=Lib.hid HJ.out
 obtain⟨p,hp⟩: ∃p,p=l.length:=⟨_,rfl⟩
 obtain⟨q,hq⟩: ∃q,q=k.length:=⟨_,rfl⟩
 rw[←hp,←hq]at HJ⊢
 obtain⟨w1,hw1⟩: ∃z,z=w.alloc (.cells #[.int .i64 kind,.int .i64 n,.string s,.slice A p c,.slice K q dd] 63):=⟨_,rfl⟩
 have hgA:w.grownBy w1 none:=by rw[hw1];exact World.grownBy_alloc _ _ none
 have HST:=Lib.hid (hw.moved hgA)
 have HK1:=Lib.hid (KeepJ.grownN hgA)
 have HW1:=Lib.hid hw1
 obtain⟨TX,hTX⟩: ∃t,t=zao (.mk kind n s l k):=⟨_,rfl⟩
 have htx:=hTX
 rw[zao]at htx
 rw[←hTX]at hlen⊢
 have HTX:=Lib.hid htx
 clear hw hj hkk hc hkc hl hkl' hp hq hw1 hgA htx hTX ih hks
 by_cases h0:kind=0
 ·subst h0
  have HT:Hid (TX=strL ⟨#[110,117,108,108]⟩):=Lib.hid (by rw[HTX.out];rfl)
  have HP:=Lib.hid (zdn W0 w1 wb acc v ⟨#[110,117,108,108]⟩ HST.out (by show acc.length+4≤_;omega))
  go_enter Tryz.func113,Tryz.ntmps113
  go_wp2_with(go_at_call 146;rw[←HW1.out];(with_reducible refine HP.out.mono ?_);rintro e_ w2 ⟨rfl,hw,hk⟩;have HF:=Lib.hid (And.intro hw hk);clear hw hk)
  go_end0
  exact⟨_,by rw[HT.out];exact .inl rfl,rfl,HF.out.1,HK1.out.trans HF.out.2⟩
 have g0:(kind==0)=false:=by rw[beq_eq_false_iff_ne];exact h0
 by_cases h1:kind=1
 ·subst h1
  have HT:Hid (TX=if n=0 then[102,97,108,115,101]else[116,114,117,101]):=Lib.hid (by rw[HTX.out];rfl)
  have HP:=Lib.hid (truth_any W0 w1 wb acc v n HST.out (by omega))
  go_enter Tryz.func113,Tryz.ntmps113
  go_wp2_with(go_at_call 147;rw[←HW1.out];(with_reducible refine HP.out.mono ?_);rintro e_ w2 ⟨rfl,hw,hk⟩;have HF:=Lib.hid (And.intro hw hk);clear hw hk)
  go_end0
  exact⟨_,by rw[HT.out];exact .inl rfl,rfl,HF.out.1,HK1.out.trans HF.out.2⟩
 have g1:(kind==1)=false:=by rw[beq_eq_false_iff_ne];exact h1
 by_cases h2:kind=2
 ·subst h2
  have HT:Hid (TX=strL (toS (prL n))):=Lib.hid (by rw[HTX.out,zcb (zhv n n0 n1).1];rfl)
  have HD:=Lib.hid (print_any n w1 n0 n1)
  obtain⟨T,hTT⟩: ∃T,T=toS (prL n):=⟨_,rfl⟩
  have hTs:T.size≤20:=by rw[hTT,zcm];exact(zhv n n0 n1).2
  rw[←hTT]at HT HD
  have HP:=Lib.hid (fun(W':World) (hb:Below w1.heap.size w1 W')=>zdn W0 W' wb acc v T (HST.out.below hb) (by omega))
  clear hTT
  go_enter Tryz.func113,Tryz.ntmps113
  go_wp2_with(first
   |(go_at_call 148;rw[←HW1.out];(with_reducible refine HD.out.mono ?_);rintro e_ w2 ⟨rfl,hb⟩;have HB2:=Lib.hid hb;clear hb)
   |(go_at_call 146;(with_reducible refine(HP.out _ HB2.out).mono ?_);rintro e_ w3 ⟨rfl,hw,hk⟩;have HF:=Lib.hid (And.intro hw hk);clear hw hk))
  go_end0
  exact⟨_,by rw[HT.out];exact .inl rfl,rfl,HF.out.1,HK1.out.trans ((KeepJ.below HB2.out).trans HF.out.2)⟩
 have g2:(kind==2)=false:=by rw[beq_eq_false_iff_ne];exact h2
 by_cases h3:kind=3
 ·subst h3
  have HT:Hid (TX=zar (strL s)):=Lib.hid (by rw[HTX.out];rfl)
  have HP:=Lib.hid (zjo W0 w1 wb acc v s HST.out hs (by omega))
  go_enter Tryz.func113,Tryz.ntmps113
  go_wp2_with(go_at_call 149;rw[←HW1.out];(with_reducible refine HP.out.mono ?_);rintro e_ w2 ⟨a2,hq,rfl,hw,hk⟩;have HF:=Lib.hid (And.intro hq (And.intro hw hk));clear hw hk hq)
  go_end0
  exact⟨_,by rw[HT.out];exact HF.out.1,rfl,HF.out.2.1,HK1.out.trans HF.out.2.2⟩
 have g3:(kind==3)=false:=by rw[beq_eq_false_iff_ne];exact h3
 by_cases h4:kind=4
 ·subst h4
  have HT:Hid (TX=strL ⟨#[91]⟩++zam (decide ((4:Int)=5)) true l k++strL ⟨#[93]⟩):=Lib.hid (by rw[HTX.out];rfl)
  have HP:=Lib.hid (HIT.out ⟨#[91]⟩ ⟨#[93]⟩ w1 _ rfl rfl (.inl rfl) HST.out HJ.out (by rw[←HT.out];exact hlen))
  rw[←HT.out]at HP
  go_enter Tryz.func113,Tryz.ntmps113
  go_wp2_with(go_at_call 150;rw[←HW1.out];(with_reducible refine HP.out.mono ?_);rintro e_ w2 ⟨a2,hq,rfl,hw,hk⟩;have HF:=Lib.hid (And.intro hq (And.intro hw hk));clear hw hk hq)
  go_end0
  exact⟨_,HF.out.1,rfl,HF.out.2.1,HK1.out.trans HF.out.2.2⟩
 have g4:(kind==4)=false:=by rw[beq_eq_false_iff_ne];exact h4
 obtain rfl:kind=5:=by omega
 have HT:Hid (TX=strL ⟨#[123]⟩++zam (decide ((5:Int)=5)) true l k++strL ⟨#[125]⟩):=Lib.hid (by rw[HTX.out];rfl)
 have HP:=Lib.hid (HIT.out ⟨#[123]⟩ ⟨#[125]⟩ w1 _ rfl rfl (.inr rfl) HST.out HJ.out (by rw[←HT.out];exact hlen))
 rw[←HT.out]at HP
 go_enter Tryz.func113,Tryz.ntmps113
 go_wp2_with(go_at_call 150;rw[←HW1.out];(with_reducible refine HP.out.mono ?_);rintro e_ w2 ⟨a2,hq,rfl,hw,hk⟩;have HF:=Lib.hid (And.intro hq (And.intro hw hk));clear hw hk hq)
 go_end0
 exact⟨_,HF.out.1,rfl,HF.out.2.1,HK1.out.trans HF.out.2.2⟩
theorem valueW_any (j:J):Wrt j→WAsk j:=by
 induction j using J.ind with
 |h kind n s l k ih=>
  intro h
  cases h with
  |mk _ _ _ _ _ h1 h2 h3 h4 h5 h6 h7 h8=>exact valueW_of kind n s l k h1 h2 h3 h4 h5 h6 h7 fun x hx=>ih x hx (h8 x hx)
theorem zlk (s:ByteArray):(zar (strL s)).length≤6*s.size+2:=by
 have:=zmy (strL s) (strL s).length
 rw[zar,List.length_append,zaQ]at*
 simp only[List.length_cons,List.length_nil]
 omega
theorem rgt_wrt (j:J):Mild j→ ∀d left,(rgt j d left).1=true→Wrt j∧((zao j).length:Int)+6000000010≤(left-(rgt j d left).2)*13000000000:=by
 induction j using J.ind with
 |h kind n s l k ih=>
  intro hM d left h
  cases hM with
  |mk _ _ _ _ _ hs hk hx=>
   have key: ∀(l:List J),(∀x∈l,Mild x→ ∀d left,(rgt x d left).1=true→Wrt x∧((zao x).length:Int)+6000000010≤(left-(rgt x d left).2)*13000000000)→(∀x∈l,Mild x)→ ∀(k:List ByteArray) (o f:Bool) (d left:Int),(∀t∈k,t.size≤1000000000)→(zcf l d left).1=true→
     (∀x∈l,Wrt x)∧((zam o f l k).length:Int)≤(left-(zcf l d left).2)*13000000000:=fun l=>by
    induction l with
    |nil=>intro _ _ k o f d left _ _;rw[zam,zcf];exact⟨fun x hx=>(by cases hx),by simp⟩
    |cons x r ihr=>
     intro ih hx k o f d left hk h
     rw[zcf]at h⊢
     cases hb:(rgt x d left).1 with
     |false=>rw[hb]at h;simp at h
     |true=>
      rw[hb]at h
      rw[if_pos rfl]at h⊢
      obtain⟨a1,a2⟩:=ih x (by simp) (hx x (by simp)) d left hb
      obtain⟨b1,b2⟩:=ihr (fun y hy=>ih y (List.mem_cons_of_mem _ hy)) (fun y hy=>hx y (List.mem_cons_of_mem _ hy)) k.tail o false d (rgt x d left).2 (fun t ht=>hk t (List.mem_of_mem_tail ht)) h
      refine⟨fun y hy=> ?_,?_⟩
      ·rcases List.mem_cons.1 hy with rfl|hy
       ·exact a1
       ·exact b1 y hy
      ·have hn:(k.headD ⟨#[]⟩).size≤1000000000:=by
        cases k with
        |nil=>show 0≤_;omega
        |cons t r=>exact hk t (by simp)
       have hq:=zlk (k.headD ⟨#[]⟩)
       rw[zam]
       simp only[List.length_append]
       have e1:(if f=true then[]else[44]:List Int).length≤1:=by split<;>simp
       have e2:(if o=true then zar (strL (k.headD ⟨#[]⟩))++[58]else[]:List Int).length≤6000000003:=by
        split
        ·rw[List.length_append];simp only[List.length_cons,List.length_nil];omega
        ·simp
       omega
   rw[rgt]at h⊢
   by_cases c1:left-1<0∨zch kind n s l.length k.length=false
   ·rw[if_pos c1]at h;cases h
   rw[if_neg c1]at h⊢
   by_cases c2:kind=5∧(k.length≠l.length∨rnL none k=false)
   ·rw[if_pos c2]at h;cases h
   rw[if_neg c2]at h⊢
   have hc:zch kind n s l.length k.length=true:=by
    cases hh:zch kind n s l.length k.length with
    |true=>rfl
    |false=>exact absurd (.inr hh) c1
   have hq:=zlk s
   by_cases c3:kind=4∨kind=5
   ·rw[if_pos c3]at h⊢
    by_cases c4:d≤8
    ·rw[if_pos c4]at h⊢
     have hn:n=0:=by
      rw[zaj]at hc
      have: ¬kind=1∧ ¬kind=2:=by omega
      simp[this.1,this.2]at hc
      exact hc.1.1.1
     have hkl:kind=5→k.length=l.length:=fun h5=>Decidable.byContradiction fun hne=>c2 ⟨h5,.inl hne⟩
     obtain⟨b1,b2⟩:=key l ih hx k (decide (kind=5)) true (d+1) (left-1) hk h
     refine⟨.mk kind n s l k (by omega) (by omega) (by omega) (by omega) hs hk hkl b1,?_⟩
     rw[zao]
     rcases c3 with rfl|rfl
     ·rw[show decide ((4:Int)=5)=false from rfl]at b2
      simp only[show((4:Int)=0)=False by simp,show((4:Int)=1)=False by simp,show((4:Int)=2)=False by simp,show((4:Int)=3)=False by simp,if_true,if_false,List.length_append,List.length_cons,List.length_nil]
      omega
     ·rw[show decide ((5:Int)=5)=true from rfl]at b2
      simp only[show((5:Int)=0)=False by simp,show((5:Int)=1)=False by simp,show((5:Int)=2)=False by simp,show((5:Int)=3)=False by simp,show((5:Int)=4)=False by simp,if_true,if_false,List.length_append,List.length_cons,List.length_nil]
      omega
    ·rw[if_neg c4]at h;cases h
   ·rw[if_neg c3]at h⊢
    have h:zdz kind n s=true:=h
    have hlp:l=[]:=by
     rw[zaj]at hc
     have: ¬kind=5∧ ¬kind=4:=by omega
     simp[this.1,this.2]at hc
     exact hc.1.2
    unfold zdz at h
    have hb:0≤kind∧kind≤3∧ -9223372036854775808≤n∧n≤9223372036854775807∧(zao (.mk kind n s l k)).length≤6000000002:=by
     rw[zaj]at hc
     rw[zao]
     by_cases e0:kind=0
     ·subst e0;simp at hc;rw[if_pos rfl];exact⟨by omega,by omega,by omega,by omega,by simp⟩
     rw[if_neg e0]at h⊢
     by_cases e1:kind=1
     ·subst e1
      simp at h
      rw[if_pos rfl]
      refine⟨by omega,by omega,by omega,by omega,?_⟩
      split<;>simp
     rw[if_neg e1]at h⊢
     by_cases e2:kind=2
     ·subst e2
      simp at h
      rw[if_pos rfl]
      have:=(zhv n (by omega) (by omega)).2
      exact⟨by omega,by omega,by omega,by omega,by omega⟩
     rw[if_neg e2]at h⊢
     by_cases e3:kind=3
     ·subst e3
      simp at hc
      rw[if_pos rfl]
      exact⟨by omega,by omega,by omega,by omega,by omega⟩
     ·rw[if_neg e3]at h;cases h
    obtain⟨b0,b3,b4,b5,b6⟩:=hb
    refine⟨.mk kind n s l k b0 (by omega) b4 b5 hs hk (fun h5=>by omega) (fun x hx=>by rw[hlp]at hx;cases hx),?_⟩
    show((zao (.mk kind n s l k)).length:Int)+6000000010≤(left-(left-1))*13000000000
    omega
end Go.Proofs.YtceddodfddlncaaGreatDoor
