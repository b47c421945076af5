
import Derived.Test.YtceddodfddlncaaGreatDoorRows
import Derived.ProofKit
import Derived.LaidMore
import Derived.LaidHandle
import Derived.LaidLaws
import Derived.Lay
import Derived.OpenShut
import Derived.Stop.Joined
import Derived.Deep.DeepHandedRow
import Derived.ChangeMaps5
import Derived.Test.YtceddodfddlncaaGreatDoorJb21
set_option maxRecDepth 100000
set_option maxHeartbeats 16000000
set_option linter.all false
namespace Go.Proofs.YtceddodfddlncaaGreatDoor
open Go Go.RowKit
theorem rgt_left (j:J): ∀d left,0≤left→(rgt j d left).1=true→0≤(rgt j d left).2:=by
 induction j using J.ind with
 |h kind n s l k ih=>
  intro d left h0 h
  have key: ∀(l:List J),(∀x∈l,∀d left,0≤left→(rgt x d left).1=true→0≤(rgt x d left).2)→ ∀(d left:Int),0≤left→(zcf l d left).1=true→0≤(zcf l d left).2:=fun l=>by
   induction l with
   |nil=>intro _ d left h0 _;rw[zcf];exact h0
   |cons x r ihr=>
    intro ih d left h0 h
    rw[zcf]at h⊢
    cases hb:(rgt x d left).1 with
    |false=>rw[hb]at h;simp at h
    |true=>
     rw[hb]at h
     rw[if_pos rfl]at h⊢
     exact ihr (fun y hy=>ih y (List.mem_cons_of_mem _ hy)) d _ (ih x (by simp) d left h0 hb) h
  rw[rgt]at h⊢
  by_cases c1:left-1<0∨zch kind n s l.length k.length=false
  ·rw[if_pos c1]at h;cases h
  rw[if_neg c1]at h⊢
  have h1:0≤left-1:=by omega
  by_cases c2:kind=5∧(k.length≠l.length∨rnL none k=false)
  ·rw[if_pos c2]at h;cases h
  rw[if_neg c2]at h⊢
  by_cases c3:kind=4∨kind=5
  ·rw[if_pos c3]at h⊢
   by_cases c4:d≤8
   ·rw[if_pos c4]at h⊢
    exact key l ih (d+1) (left-1) h1 h
   ·rw[if_neg c4]at h;cases h
  ·rw[if_neg c3];exact h1
theorem checkJ_any (j:J) (v:Value) (w:World) (hj:RepJ w j v) (hM:Mild j) (hm:Marks w):
  Calls Tryz.prog 112 #[v] w fun e w'=>e= .returned (if(rgt j 1 256).1=true then .nilIface else .iface 54 (.int .i64 1))∧Below w.heap.size w w':=by
 have HJ:=Lib.hid hj
 have HM:=Lib.hid hm
 have HR:=Lib.hid (right_any j hM)
 obtain⟨vk,A,c,rfl,_,hkk,hl,hc⟩:=hj.open
 obtain⟨K,dd,rfl,hkl,hkc⟩:=hkk.open
 obtain⟨x0,hx0⟩: ∃x,x=j.kind:=⟨_,rfl⟩
 obtain⟨x1,hx1⟩: ∃x,x=j.n:=⟨_,rfl⟩
 obtain⟨x2,hx2⟩: ∃x,x=j.s:=⟨_,rfl⟩
 obtain⟨p,hp⟩: ∃p,p=j.l.length:=⟨_,rfl⟩
 obtain⟨q,hq⟩: ∃q,q=j.k.length:=⟨_,rfl⟩
 rw[←hx0,←hx1,←hx2,←hp,←hq]at HJ⊢
 obtain⟨r,hr⟩: ∃r,r=rgt j 1 256:=⟨_,rfl⟩
 rw[←hr]
 obtain⟨w1,hw1⟩: ∃z,z=w.alloc (.cells #[.int .i64 x0,.int .i64 x1,.string x2,.slice A p c,.slice K q dd] 63):=⟨_,rfl⟩
 have hb1:Below w.heap.size w w1:=by rw[hw1];exact(Below.refl _ _).alloc (Nat.le_refl _) _
 have hz1:w1.heap.size=w.heap.size+1:=by rw[hw1];simp
 obtain⟨w2,hw2⟩: ∃z,z=w1.alloc (.cells #[.int .i64 0] 209):=⟨_,rfl⟩
 have hb2:Below w.heap.size w w2:=by rw[hw2];exact hb1.alloc hb1.size _
 have hC:Blk w2 (w.heap.size+1) 209 [.int .i64 (256-256)]:=by rw[hw2,←hz1];exact zhy w1 _ _
 have HCALL:=Lib.hid (HR.out 1 256 w w2 _ (w.heap.size+1) HJ.out hb2 (by omega) hC (by decide) (by decide) (by decide) (by decide) HM.out)
 rw[←hr]at HCALL
 have HW2:Hid (w2=(w.alloc (.cells #[.int .i64 x0,.int .i64 x1,.string x2,.slice A p c,.slice K q dd] 63)).alloc (.cells #[.int .i64 0] 209)):=Lib.hid (by rw[hw2,hw1])
 clear hj hm hkk hl hc hkl hkc hx0 hx1 hx2 hp hq hr hw1 hb1 hz1 hw2 hb2 hC
 obtain⟨ok,lf⟩:=r
 cases ok with
 |true=>
  rw[if_pos rfl]
  go_enter Tryz.func112,Tryz.ntmps112
  go_wp2_with(go_at_call 145;rw[←HW2.out];(with_reducible refine HCALL.out.mono ?_);rintro e w3 ⟨rfl,hb3,_⟩;have HF:=Lib.hid hb3;clear hb3)
  go_ret
  exact⟨rfl,HF.out⟩
 |false=>
  rw[if_neg (by simp)]
  go_enter Tryz.func112,Tryz.ntmps112
  go_wp2_with(go_at_call 145;rw[←HW2.out];(with_reducible refine HCALL.out.mono ?_);rintro e w3 ⟨rfl,hb3,_⟩;have HF:=Lib.hid hb3;clear hb3)
  go_ret
  exact⟨rfl,HF.out⟩
def zha (j:J):List Int×Int:=if(rgt j 1 256).1=false then([],1)else if 4096<(zao j).length then([],2)else(zao j,0)
def PrTells (r:List Int×Int) (w:World) (e:Ending) (w':World):Prop:=
 e= .returned (.tuple #[.string (toS r.1),if r.2=0 then .nilIface else .iface 54 (.int .i64 r.2)])∧Bytes r.1∧Below w.heap.size w w'
theorem printJ_any (j:J) (v:Value) (w:World) (hj:RepJ w j v) (hM:Mild j) (hm:Marks w):
  Calls Tryz.prog 84 #[v] w (PrTells (zha j) w):=by
 have HJ:=Lib.hid hj
 have HCK0:=Lib.hid (fun(W:World) (vv:Value) (h:RepJ W j vv) (h2:Marks W)=>checkJ_any j vv W h hM h2)
 have hwr:=rgt_wrt j hM 1 256
 have HM:=Lib.hid hm
 obtain⟨vk,A,c,rfl,_,hkk,hl,hc⟩:=hj.open
 obtain⟨K,dd,rfl,hkl,hkc⟩:=hkk.open
 obtain⟨x0,hx0⟩: ∃x,x=j.kind:=⟨_,rfl⟩
 obtain⟨x1,hx1⟩: ∃x,x=j.n:=⟨_,rfl⟩
 obtain⟨x2,hx2⟩: ∃x,x=j.s:=⟨_,rfl⟩
 obtain⟨p,hp⟩: ∃p,p=j.l.length:=⟨_,rfl⟩
 obtain⟨q,hq⟩: ∃q,q=j.k.length:=⟨_,rfl⟩
 rw[←hx0,←hx1,←hx2,←hp,←hq]at HJ⊢
 obtain⟨ok,hok⟩: ∃r,r=(rgt j 1 256).1:=⟨_,rfl⟩
 have hpr:zha j=if ok=false then([],1)else if 4096<(zao j).length then([],2)else(zao j,0):=by rw[zha,hok]
 have hrl:ok=true→0≤(rgt j 1 256).2:=fun h=>Decidable.byContradiction fun hn=>by
  rw[hok]at h
  have:=rgt_left j 1 256 (by decide) h
  omega
 rw[←hok]at HCK0 hwr
 obtain⟨B,hB⟩: ∃B,B=w.heap.size:=⟨_,rfl⟩
 obtain⟨w1,hw1⟩: ∃z,z=w.alloc (.cells #[.int .i64 x0,.int .i64 x1,.string x2,.slice A p c,.slice K q dd] 63):=⟨_,rfl⟩
 have hb1:Below w.heap.size w w1:=by rw[hw1];exact(Below.refl _ _).alloc (Nat.le_refl _) _
 have hX1:Blk w1 B 63 [.int .i64 x0,.int .i64 x1,.string x2,.slice A p c,.slice K q dd]:=by rw[hw1,hB];exact zhy w _ _
 have HCK:=Lib.hid (HCK0.out w1 _ (RepJ.below hb1 _ _ HJ.out) (HM.out.below hb1))
 have HPR:=Lib.hid hpr
 have HX1:=Lib.hid hX1
 have HB1:=Lib.hid hb1
 have HW1:=Lib.hid hw1
 have HB:=Lib.hid hB
 have HWR:=Lib.hid hwr
 have HRL:=Lib.hid hrl
 clear hj hm hkk hl hc hkl hkc hx0 hx1 hx2 hp hq hok hpr hB hw1 hb1 hX1 HCK0 hwr hrl
 cases ok with
 |false=>
  have HR:Hid (zha j=([],1)):=Lib.hid (by rw[HPR.out];exact if_pos rfl)
  rw[if_neg (by simp)]at HCK
  go_enter Tryz.func84,Tryz.ntmps84
  go_wp2_with(go_at_call 112;rw[←HW1.out];(with_reducible refine HCK.out.mono ?_);rintro e w3 ⟨rfl,hb3⟩;have HF:=Lib.hid (HB1.out.trans (hb3.mono HB1.out.size));clear hb3)
  go_ret2
  rw[HR.out]
  exact⟨rfl,.of_mem (by simp),HF.out⟩
 |true=>
  obtain⟨hW,hTL⟩:=HWR.out rfl
  have h0:=HRL.out rfl
  have hTL2:(zao j).length≤4000000000000:=by omega
  have HPR2:Hid (zha j=if 4096<(zao j).length then([],2)else(zao j,0)):=Lib.hid (HPR.out.trans (if_neg (by simp)))
  have HWA:=Lib.hid (valueW_any j hW)
  rw[if_pos rfl]at HCK
  clear hTL h0
  go_enter Tryz.func84,Tryz.ntmps84
  go_wp2_with fail
  rw[show w.alloc (.cells #[.int .i64 x0,.int .i64 x1,.string x2,.slice A p c,.slice K q dd] 63)=w1 from HW1.out.symm,show w.heap.size=B from HB.out.symm]
  refine HCK.out.mono ?_
  rintro e w3 ⟨rfl,hb3⟩
  have hX3:=HX1.out.below hb3 HX1.out.lt
  obtain⟨c0,c1,c2,c3,c4⟩:w3.cell? ⟨B,0,none⟩=some (.int .i64 x0)∧w3.cell? ⟨B,1,none⟩=some (.int .i64 x1)∧w3.cell? ⟨B,2,none⟩=some (.string x2)∧w3.cell? ⟨B,3,none⟩=some (.slice A p c)∧w3.cell? ⟨B,4,none⟩=some (.slice K q dd):=⟨hX3.cell 0,hX3.cell 1,hX3.cell 2,hX3.cell 3,hX3.cell 4⟩
  have hlt3:=hX3.lt
  have hbw3:=HB1.out.trans (hb3.mono HB1.out.size)
  have HB3:=Lib.hid hbw3
  obtain⟨w4,hw4⟩: ∃z,z=w3.alloc (.cells #[.slice none 0 0] 172):=⟨_,rfl⟩
  have hgA:w3.grownBy w4 none:=by rw[hw4];exact World.grownBy_alloc _ _ none
  obtain⟨wb,hwb⟩: ∃z,z=w3.heap.size:=⟨_,rfl⟩
  have hst:WSt w3 w4 wb [] (.slice none 0 0):=⟨by rw[hw4,hwb];exact zhy w3 [.slice none 0 0] _,World.ownsRow_nil _ _ _ _,by rw[hw4];exact(Below.refl _ _).alloc (Nat.le_refl _) _,by omega,.of_mem (by simp)⟩
  have HV:=Lib.hid (HWA.out w3 w4 wb [] _ _ hst (RepJ.below hbw3 _ _ HJ.out) (by simp;omega))
  have d0:w4.cell? ⟨B,0,none⟩=some (.int .i64 x0):=zbw c0 hgA
  have d1:w4.cell? ⟨B,1,none⟩=some (.int .i64 x1):=zbw c1 hgA
  have d2:w4.cell? ⟨B,2,none⟩=some (.string x2):=zbw c2 hgA
  have d3:w4.cell? ⟨B,3,none⟩=some (.slice A p c):=zbw c3 hgA
  have d4:w4.cell? ⟨B,4,none⟩=some (.slice K q dd):=zbw c4 hgA
  have HW4:=Lib.hid hw4
  have HWB:=Lib.hid hwb
  rw[hw4]at d0 d1 d2 d3 d4
  clear hX3 hb3 hbw3 hgA hst hw4 hwb c0 c1 c2 c3 c4
  go_wp2_with fail
  rw[show w3.alloc (.cells #[.slice none 0 0] 172)=w4 from HW4.out.symm,show w3.heap.size=wb from HWB.out.symm]
  clear d0 d1 d2 d3 d4
  refine HV.out.mono ?_
  rintro e w5 ⟨acc,hwr5,rfl,⟨v5,hs5⟩,hk5⟩
  have hlen:(4096<acc.length↔4096<(zao j).length)∧(¬4096<acc.length→acc=zao j):=by
   rcases hwr5 with rfl|⟨h1,h2,_⟩
   ·rw[List.nil_append];exact⟨Iff.rfl,fun _=>rfl⟩
   ·simp only[List.length_nil,Nat.zero_add]at h2
    exact⟨⟨fun _=>h2,fun _=>h1⟩,fun h=>absurd h1 h⟩
  have HFU:=Lib.hid (full_any w3 w5 wb acc v5 hs5)
  have HB5:=Lib.hid (HB3.out.trans (hs5.bel.mono HB3.out.size))
  by_cases hf:4096<acc.length
  ·have HR:Hid (zha j=([],2)):=Lib.hid (HPR2.out.trans (if_pos (hlen.1.1 hf)))
   rw[decide_eq_true hf]at HFU
   clear hlen hf hwr5 hs5 hk5
   go_wp2_with(go_at_call 114;(with_reducible refine HFU.out.mono ?_);rintro e w' ⟨rfl,rfl⟩)
   go_ret2
   rw[HR.out]
   exact⟨rfl,.of_mem (by simp),HB5.out⟩
  ·have HR:Hid (zha j=(acc,0)):=Lib.hid ((HPR2.out.trans (if_neg (fun h=>hf (hlen.1.2 h)))).trans (by rw[←hlen.2 hf]))
   rw[decide_eq_false hf]at HFU
   have HBY:=Lib.hid hs5.bts
   have e0:w5.cell? ⟨wb,0,none⟩=some v5:=hs5.blk.cell 0
   obtain⟨A5,c5,rfl,_,hlie⟩:=znZ hs5.own rfl
   have hcv:=zdo A5 acc acc.length c5 w5 rfl hlie
   obtain⟨T,hT⟩: ∃T,T=toS acc:=⟨_,rfl⟩
   have HT:=Lib.hid hT
   rw[←hT]at hcv
   obtain⟨m,hmm⟩: ∃m,m=acc.length:=⟨_,rfl⟩
   rw[←hmm]at hcv e0
   clear hlen hf hwr5 hs5 hk5 hlie hT hmm
   go_wp2_with(go_at_call 114;(with_reducible refine HFU.out.mono ?_);rintro e w' ⟨rfl,rfl⟩)
   go_ret2
   rw[HR.out]
   exact⟨by rw[HT.out];rfl,HBY.out,HB5.out⟩
end Go.Proofs.YtceddodfddlncaaGreatDoor
