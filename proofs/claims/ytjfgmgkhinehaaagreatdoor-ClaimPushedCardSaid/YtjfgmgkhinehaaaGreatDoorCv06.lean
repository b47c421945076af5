
import Derived.Deep.CutBlock
import Derived.Deep.CutRange
import Derived.Test.YtjfgmgkhinehaaaGreatDoorCq01
import Derived.Test.YtjfgmgkhinehaaaGreatDoorCq04
import Derived.Test.YtjfgmgkhinehaaaGreatDoorCq06
import Derived.Test.YtjfgmgkhinehaaaGreatDoorCq49
import Derived.Test.YtjfgmgkhinehaaaGreatDoorCq50
import Derived.Test.YtjfgmgkhinehaaaGreatDoorCq53
import Derived.Test.YtjfgmgkhinehaaaGreatDoorCv04
set_option maxRecDepth 100000
set_option maxHeartbeats 16000000
set_option linter.all false
namespace Go.Proofs.YtjfgmgkhinehaaaGreatDoor
open Go Go.RowKit
theorem refMany_obj (s:ByteArray) (hs:s.size≤5000) (deep:Int) (hd0:0≤deep) (hd:deep≤8) (val:Nat→Int→VR) (hv:ValOk s deep val) (i:Nat) (left:Int) (hi:i<s.size) (hl0:0≤left) (hl:left≤256) (W:World) (hc:atL (strL s) i=123):
  Calls Tryz.prog 132 #[.string s,.int .i64 (i:Int),.int .i64 deep,.int .i64 left] W (zbp W (zbX (strL s) val i left)):=by
 have HLEN:=Lib.hid (zaX s)
 have HV:=Lib.hid hv
 have hG:=zhJ s i hi
 rw[hc]at hG
 have hne:(((s[i]'hi).toNat:Int)==123)=true:=by rw[←hG];rfl
 have HS1:=Lib.hid (fun W:World=>zcf s ((i:Int)+1) (i+1) W (by omega) (by omega) (by omega))
 have hsk:=zcz s.size (strL s) (i+1) (by rw[HLEN.out];omega) (by rw[HLEN.out];omega)
 rw[HLEN.out]at hsk
 have HM:Hid (zbX (strL s) val i left=zas (strL s) val true (s.size+1) true (zaY (strL s) (i+1)) left [] []):=Lib.hid (by
  unfold zbX;rw[hc,HLEN.out];rfl)
 obtain⟨k0,hk0⟩: ∃k,k=zaY (strL s) (i+1):=⟨_,rfl⟩
 rw[←hk0]at HS1 hsk HM
 have HK0:Hid (k0≤s.size):=Lib.hid hsk.2
 have HST:=Lib.hid (obj_start W)
 clear hc hG hk0 hsk hv
 go_enter Tryz.func132,Tryz.ntmps132
 go_wp2_with(go_at_call 95;(with_reducible refine(HS1.out _).mono ?_);rintro e w' ⟨rfl,rfl⟩)
 go_loopw[1,3,14] (fun a b c wr=> ∃(k f:Nat) (lf:Int) (fst:Bool) (ks:List ByteArray) (vs:List J) (vL vK:Value),a= .int .i64 (k:Int)∧b= .int .i64 lf∧c= .bool fst∧k≤s.size∧s.size<k+f∧0≤lf∧lf≤256∧ks.length≤k∧ks.length=vs.length∧zbX (strL s) val i left=zas (strL s) val true f fst k lf ks vs∧ObjInv W wr ks vs vL vK) (fun a _ _ _=>s.size-(intOf a).toNat)
 case atStart=>exact⟨k0,s.size+1,left,true,[],[],.slice none 0 0,.slice none 0 0,rfl,rfl,rfl,HK0.out,by omega,hl0,hl,by simp,rfl,HM.out,HST.out⟩
 case round=>
  obtain⟨k,f,lf,fst,ks,vs,vL,vK,rfl,rfl,rfl,hk,hf,hf0,hf1,hkk,hkl,hrun,hI⟩:=hrel
  have HRUN:=Lib.hid hrun
  have HI:=Lib.hid hI
  have HKL:=Lib.hid hkl
  obtain⟨hb8,hb13,hor,hb,hsz⟩:=hI
  have HOR:=Lib.hid hor
  have HB:=Lib.hid hb
  clear hrun hor hb HM HST HS1
  obtain⟨f,rfl⟩: ∃g,f=g+1:=⟨f-1,by omega⟩
  have HC:=Lib.hid (fun W:World=>zay s k W (by omega) (by omega))
  by_cases hend:atL (strL s) k=125
  ·as_aux_lemma=>
    have HR:Hid (zbX (strL s) val i left=(.mk 5 0 ⟨#[]⟩ vs ks,zaY (strL s) (k+1),lf,0)):=Lib.hid (by rw[HRUN.out,zas];exact if_pos hend)
    have HSK:=Lib.hid (fun W:World=>zcf s ((k:Int)+1) (k+1) W (by omega) (by omega) (by have:=zav (l:=strL s) (i:=k) (by rw[hend];decide);rw[HLEN.out]at this;omega))
    rw[hend]at HC
    obtain⟨A,c,K,d,rfl,rfl⟩:=obj_form HI.out
    clear hend HRUN hkl
    obtain⟨a0,a1,a2,a3,a4⟩:wr.cell? ⟨W.heap.size,0,none⟩=some (.int .i64 0)∧wr.cell? ⟨W.heap.size,1,none⟩=some (.int .i64 0)∧wr.cell? ⟨W.heap.size,2,none⟩=some (.string ⟨#[]⟩)∧wr.cell? ⟨W.heap.size,3,none⟩=some (.slice none 0 0)∧wr.cell? ⟨W.heap.size,4,none⟩=some (.slice none 0 0):=⟨hb8.cell 0,hb8.cell 1,hb8.cell 2,hb8.cell 3,hb8.cell 4⟩
    obtain⟨f0',f1',f2',f3',f4'⟩:wr.frozen? ⟨W.heap.size,0,none⟩=false∧wr.frozen? ⟨W.heap.size,1,none⟩=false∧wr.frozen? ⟨W.heap.size,2,none⟩=false∧wr.frozen? ⟨W.heap.size,3,none⟩=false∧wr.frozen? ⟨W.heap.size,4,none⟩=false:=⟨hb8.frozen 0,hb8.frozen 1,hb8.frozen 2,hb8.frozen 3,hb8.frozen 4⟩
    obtain⟨b0,b1,b2,b3,b4⟩:wr.cell? ⟨W.heap.size+1,0,none⟩=some (.int .i64 5)∧wr.cell? ⟨W.heap.size+1,1,none⟩=some (.int .i64 0)∧wr.cell? ⟨W.heap.size+1,2,none⟩=some (.string ⟨#[]⟩)∧wr.cell? ⟨W.heap.size+1,3,none⟩=some (.slice A vs.length c)∧wr.cell? ⟨W.heap.size+1,4,none⟩=some (.slice K ks.length d):=⟨hb13.cell 0,hb13.cell 1,hb13.cell 2,hb13.cell 3,hb13.cell 4⟩
    go_wp2_with(go_at_call 127;(with_reducible refine(HC.out _).mono ?_);rintro e w' ⟨rfl,rfl⟩)
    have hwr:IntKind.i64.wrap ((k:Int)+1)=(k:Int)+1:=by rw[IntKind.wrap_i64];omega
    go_region_law(go_simp;go_at_call 95;(with_reducible refine(HSK.out _).mono ?_);rintro e w' ⟨rfl,rfl⟩)
    all_goals
     clear hwr
     go_wp2_with fail
     simp only[List.getElem_toArray,List.getElem_cons_succ,List.getElem_cons_zero,Act.put,List.setIfInBounds_toArray,List.set_cons_succ,List.set_cons_zero]
     obtain⟨hA,hA2,hA3⟩:=fin5g HB.out hb8 (.int .i64 5) (.int .i64 0) (.string ⟨#[]⟩) (.slice A vs.length c) (.slice K ks.length d)
     obtain⟨hC,hC2,hC3⟩:=fin5g (zbQ HB.out) hb8.drew (.int .i64 5) (.int .i64 0) (.string ⟨#[]⟩) (.slice A vs.length c) (.slice K ks.length d)
     have hA':=hA.drew
     have hA2':=zbQ hA2
     have hA3':=zaJ hA3
     have hC3':=(zaJ (zae wr (some W.heap.size))).trans hC3
     refine bodyPost_ret (v:= .tuple #[.agg #[.int .i64 5,.int .i64 0,.string ⟨#[]⟩,.slice A vs.length c,.slice K ks.length d],.int .i64 (zaY (strL s) (k+1):Nat),.int .i64 lf,.int .i64 0]) (zak Tryz.results132 _ _ W.heap.size _ [.int .i64 5,.int .i64 0,.string ⟨#[]⟩,.slice A vs.length c,.slice K ks.length d] _ rfl (by first|(with_reducible exact hA')|(with_reducible exact hC)) Tryz.underlying27 rfl zaa) rfl ?_
     rw[HR.out]
     exact⟨_,rfl,RepS.keeps (Keeps.grown (by first|(with_reducible exact hA3')|(with_reducible exact hC3')) (fun b (h:_≤b) e=>by injection e with e;omega)) (fun b (h:_≤b) _=>show W.heap.size≤b by omega) _ _ HOR.out,(by first|(with_reducible exact hA2')|(with_reducible exact hC2))⟩
  ·obtain⟨c,hcc⟩: ∃c,c=atL (strL s) k:=⟨_,rfl⟩
   have HLT:Hid (c≠ -1→k<s.size):=Lib.hid (fun h=>by rw[←HLEN.out];exact zav (by rw[←hcc];exact h))
   have HGO:Hid (zbX (strL s) val i left=if fst=true then zem (strL s) val true (zas (strL s) val true f false) k lf ks vs else if c≠44 then(zeroJ,k,lf,50)else zem (strL s) val true (zas (strL s) val true f false) (zaY (strL s) (k+1)) lf ks vs):=Lib.hid (by rw[HRUN.out,zas,hcc];exact if_neg hend)
   rw[←hcc]at HC hend
   obtain⟨o1,o2⟩:=zbd hend
   clear hcc hend HRUN
   obtain⟨r0,r1,r2,r3,r4⟩:wr.cell? ⟨W.heap.size+1,0,none⟩=some (.int .i64 5)∧wr.cell? ⟨W.heap.size+1,1,none⟩=some (.int .i64 0)∧wr.cell? ⟨W.heap.size+1,2,none⟩=some (.string ⟨#[]⟩)∧wr.cell? ⟨W.heap.size+1,3,none⟩=some (vL)∧wr.cell? ⟨W.heap.size+1,4,none⟩=some (vK):=⟨hb13.cell 0,hb13.cell 1,hb13.cell 2,hb13.cell 3,hb13.cell 4⟩
   have HGO1:Hid (fst=true→zbX (strL s) val i left=zem (strL s) val true (zas (strL s) val true f false) k lf ks vs):=Lib.hid (fun h=>HGO.out.trans (if_pos h))
   clear hkl
   go_upto_if 41 with(go_at_call 127;(with_reducible refine(HC.out _).mono ?_);rintro e w' ⟨rfl,rfl⟩)
   go_cut[1]from 35 to 139 (fun v wx=> ∃a1:Nat,v= .int .i64 (a1:Int)∧k≤a1∧a1≤s.size∧wx=wr∧Hid (zbX (strL s) val i left=zem (strL s) val true (zas (strL s) val true f false) a1 lf ks vs))
   case first=>
    cases fst with
    |true=>as_aux_lemma=>
     go_wp2_with fail
     go_meet
     case rel=>exact⟨k,rfl,Nat.le_refl _,hk,rfl,Lib.hid (HGO1.out (by first|rfl|trivial))⟩
    |false=>
     by_cases hcm:c=44
     ·as_aux_lemma=>
       have hklt:=HLT.out (by omega)
       have HSK2:=Lib.hid (fun W:World=>zcf s ((k:Int)+1) (k+1) W (by omega) (by omega) (by omega))
       have hsk:=zcz s.size (strL s) (k+1) (by rw[HLEN.out];omega) (by rw[HLEN.out];omega)
       rw[HLEN.out]at hsk
       have HST0:Hid (zbX (strL s) val i left=zem (strL s) val true (zas (strL s) val true f false) (zaY (strL s) (k+1)) lf ks vs):=Lib.hid (HGO.out.trans ((if_neg (by decide)).trans (if_neg (fun h=>h hcm))))
       obtain⟨a1,ha1⟩: ∃a,a=zaY (strL s) (k+1):=⟨_,rfl⟩
       rw[←ha1]at HSK2 hsk HST0
       obtain⟨m1,m2⟩:=zbl hcm
       clear HGO hcm ha1
       go_wp2_with(first|(go_at_call 127;(with_reducible refine(HC.out _).mono ?_);rintro e w' ⟨rfl,rfl⟩)|(go_at_call 95;(with_reducible refine(HSK2.out _).mono ?_);rintro e w' ⟨rfl,rfl⟩))
       go_meet
       case rel=>exact⟨a1,rfl,by omega,hsk.2,rfl,HST0⟩
     ·as_aux_lemma=>
       have HR:Hid (zbX (strL s) val i left=(zeroJ,k,lf,50)):=Lib.hid (HGO.out.trans ((if_neg (by decide)).trans (if_pos hcm)))
       obtain⟨m1,m2⟩:=zbd hcm
       clear HGO hcm
       go_wp2_with(first|(go_at_call 127;(with_reducible refine(HC.out _).mono ?_);rintro e w' ⟨rfl,rfl⟩)|(refine zaQ rfl none rfl _ (.tmp 8) _ rfl W.heap.size 0 [.int .i64 0,.int .i64 0,.string ⟨#[]⟩,.slice none 0 0,.slice none 0 0] rfl rfl _ _ hb8 (by simp[zeros5]) zaa (by intro v hv;simp at hv;rcases hv with rfl|rfl|rfl|rfl|rfl<;>rfl) ?_;intro w9 hb9 hgr;rw[zaW _ _ (by simp[zeros5])]at hb9;have HB9:=Lib.hid (Below.grown HB.out hgr (Below.size HB.out) (by intro k hk;injection hk with hk;omega));have HG9:=Lib.hid hgr;clear hgr;try go_frame))
       refine bodyPost_ret (v:= .tuple #[.agg #[.int .i64 0,.int .i64 0,.string ⟨#[]⟩,.slice none 0 0,.slice none 0 0],.int .i64 (k:Int),.int .i64 lf,.int .i64 50]) (zak Tryz.results132 _ _ W.heap.size _ [.int .i64 0,.int .i64 0,.string ⟨#[]⟩,.slice none 0 0,.slice none 0 0] _ rfl hb9 Tryz.underlying27 rfl zaa) rfl ?_
       rw[HR.out]
       exact⟨_,rfl,RepS.zero _ _,HB9.out⟩
   case rest=>
    obtain⟨a1,rfl,hka,has,hwx,HST0⟩:=hcut
    replace hwx:=hwx.symm
    subst hwx
    clear HGO HGO1 HC o1 o2 HLT
    go_upto_if 55 with fail
    go_cut[1,15]from 35 to 139 (fun v u wb=> ∃(a3:Nat) (T:ByteArray),v= .int .i64 (a3:Int)∧u= .string T∧T.size≤30000∧k≤a3∧a3≤s.size∧Below wr.heap.size wr wb∧Hid (zbX (strL s) val i left=zfb (strL s) val true (zas (strL s) val true f false) a3 lf T ks vs))
    case first=>
     skip
     have HQ:=Lib.hid (fun W:World=>zhe s a1 W (by omega) (by omega))
     have hql:=zct (strL s) a1
     have hqn:=zfW (strL s) a1
     have hqg:=zet (strL s) a1
     obtain⟨r,hr⟩: ∃r,r=zah (strL s) a1:=⟨_,rfl⟩
     have HSTEP:Hid (zbX (strL s) val i left=if r.2.2≠0 then(zeroJ,r.2.1,lf,r.2.2)else if hasK ks (toS r.1)=true then(zeroJ,a1,lf,52)else if atL (strL s) (zaY (strL s) r.2.1)≠58 then(zeroJ,zaY (strL s) r.2.1,lf,50)else zfb (strL s) val true (zas (strL s) val true f false) (zaY (strL s) (zaY (strL s) r.2.1+1)) lf (toS r.1) ks vs):=Lib.hid (by rw[HST0.out,hr];rfl)
     rw[←hr]at HQ hql hqn hqg
     obtain⟨t,b,er⟩:=r
     rw[HLEN.out]at hql hqn
     simp only at HQ hql hqn hqg HSTEP
     obtain⟨T,hT⟩: ∃T,T=toS t:=⟨_,rfl⟩
     have hTs:T.size≤30000:=by rw[hT,zap];omega
     rw[←hT]at HQ HSTEP
     clear hr hT hqn HST0
     by_cases her:er=0
     ·have HS2:Hid (zbX (strL s) val i left=if hasK ks T=true then(zeroJ,a1,lf,52)else if atL (strL s) (zaY (strL s) b)≠58 then(zeroJ,zaY (strL s) b,lf,50)else zfb (strL s) val true (zas (strL s) val true f false) (zaY (strL s) (zaY (strL s) b+1)) lf T ks vs):=Lib.hid (HSTEP.out.trans (if_neg (fun h=>h her)))
      have hbs:=hql her
      have hbg:=hqg her
      obtain⟨q1,q2⟩:=zbl her
      have HGET:=Lib.hid (fun(W':World) (ha:RepJ W' (.mk 5 0 ⟨#[]⟩ vs ks) (.agg #[.int .i64 5,.int .i64 0,.string ⟨#[]⟩,vL,vK]))=>zgK (.mk 5 0 ⟨#[]⟩ vs ks) _ T W' ha (by omega))
      have hhas:(getJ (.mk 5 0 ⟨#[]⟩ vs ks) T).isSome=hasK ks T:=getL_has T HKL.out
      rw[hhas]at HGET
      obtain⟨y,hy⟩: ∃y,y=(getJ (.mk 5 0 ⟨#[]⟩ vs ks) T).getD zeroJ:=⟨_,rfl⟩
      rw[←hy]at HGET
      obtain⟨g,hg⟩: ∃g,g=hasK ks T:=⟨_,rfl⟩
      rw[←hg]at HGET HS2
      clear HSTEP her hql hqg hhas hy hg
      cases g with
      |true=>as_aux_lemma=>
       have HR:Hid (zbX (strL s) val i left=(zeroJ,a1,lf,52)):=Lib.hid (HS2.out.trans (if_pos rfl))
       clear HS2
       go_wp2_with(first|(go_at_call 131;(with_reducible refine(HQ.out _).mono ?_);rintro e wq ⟨rfl,hbq⟩;have HBQ:=Lib.hid hbq;have hb8q:=Blk.below hb8 hbq hb8.lt;have hb13q:=Blk.below hb13 hbq hb13.lt;have HBQ2:=Lib.hid (HB.out.trans (hbq.mono HB.out.size));obtain⟨q0,q1,q2,q3,q4⟩:wq.cell? ⟨W.heap.size+1,0,none⟩=some (.int .i64 5)∧wq.cell? ⟨W.heap.size+1,1,none⟩=some (.int .i64 0)∧wq.cell? ⟨W.heap.size+1,2,none⟩=some (.string ⟨#[]⟩)∧wq.cell? ⟨W.heap.size+1,3,none⟩=some (vL)∧wq.cell? ⟨W.heap.size+1,4,none⟩=some (vK):=⟨hb13q.cell 0,hb13q.cell 1,hb13q.cell 2,hb13q.cell 3,hb13q.cell 4⟩;clear hbq)|(go_at_call 14;(with_reducible refine(HGET.out _ (RepS.toJ _ _ (RepS.keeps (Keeps.below HBQ.out (fun _ _ h=>h)) (fun _ h _=>h) _ _ HOR.out))).mono ?_);rintro e wg ⟨v0,rfl,hv0,hbg⟩;obtain⟨vk0,B,b9,rfl,_,hk0,_,_⟩:=hv0.open;obtain⟨M,m9,rfl,_,_⟩:=hk0.open;obtain⟨y0,hy0⟩: ∃a,a=y.kind:=⟨_,rfl⟩;obtain⟨y1,hy1⟩: ∃a,a=y.n:=⟨_,rfl⟩;obtain⟨y2,hy2⟩: ∃a,a=y.s:=⟨_,rfl⟩;obtain⟨y3,hy3⟩: ∃a,a=y.l.length:=⟨_,rfl⟩;obtain⟨y4,hy4⟩: ∃a,a=y.k.length:=⟨_,rfl⟩;rw[←hy0,←hy1,←hy2,←hy3,←hy4];clear hy0 hy1 hy2 hy3 hy4 hv0 hk0;have HBG:=Lib.hid (HBQ.out.trans (hbg.mono HBQ.out.size));clear hbg)|(refine zaK rfl (some 19) rfl _ rfl _ zdY ?_;intro g19 wa hg19 hb19 hgra;have HGA:=Lib.hid hgra;have HG19:=Lib.hid hg19;clear hgra hg19;try go_frame)|(refine zaQ rfl none rfl _ (.tmp 19) _ rfl g19 0 [.int .i64 y0,.int .i64 y1,.string y2,.slice B y3 b9,.slice M y4 m9] rfl rfl _ _ hb19 (by simp[zeros5]) zaa (by intro v hv;simp at hv;rcases hv with rfl|rfl|rfl|rfl|rfl<;>rfl) ?_;intro wb hb19' hgrb;have HWB:=Lib.hid (zao HBG.out HGA.out HG19.out hgrb);have HWBZ:=Lib.hid (Nat.le_trans hsz HWB.out.size);clear hgrb hb19';have hb8b:=Blk.below hb8 HWB.out hb8.lt;have hb13b:=Blk.below hb13 HWB.out hb13.lt;have HBB:=Lib.hid (HB.out.trans (HWB.out.mono HB.out.size));obtain⟨p0,p1,p2,p3,p4⟩:wb.cell? ⟨W.heap.size+1,0,none⟩=some (.int .i64 5)∧wb.cell? ⟨W.heap.size+1,1,none⟩=some (.int .i64 0)∧wb.cell? ⟨W.heap.size+1,2,none⟩=some (.string ⟨#[]⟩)∧wb.cell? ⟨W.heap.size+1,3,none⟩=some (vL)∧wb.cell? ⟨W.heap.size+1,4,none⟩=some (vK):=⟨hb13b.cell 0,hb13b.cell 1,hb13b.cell 2,hb13b.cell 3,hb13b.cell 4⟩;try go_frame)|(refine zaQ rfl none rfl _ (.tmp 8) _ rfl W.heap.size 0 [.int .i64 0,.int .i64 0,.string ⟨#[]⟩,.slice none 0 0,.slice none 0 0] rfl rfl _ _ hb8b (by simp[zeros5]) zaa (by intro v hv;simp at hv;rcases hv with rfl|rfl|rfl|rfl|rfl<;>rfl) ?_;intro w9 hb9 hgr;rw[zaW _ _ (by simp[zeros5])]at hb9;have HB9:=Lib.hid (Below.grown HBB.out hgr (Below.size HBB.out) (by intro k hk;injection hk with hk;omega));have HG9:=Lib.hid hgr;clear hgr;try go_frame))
       refine bodyPost_ret (v:= .tuple #[.agg #[.int .i64 0,.int .i64 0,.string ⟨#[]⟩,.slice none 0 0,.slice none 0 0],.int .i64 (a1:Int),.int .i64 lf,.int .i64 52]) (zak Tryz.results132 _ _ W.heap.size _ [.int .i64 0,.int .i64 0,.string ⟨#[]⟩,.slice none 0 0,.slice none 0 0] _ rfl hb9 Tryz.underlying27 rfl zaa) rfl ?_
       rw[HR.out]
       exact⟨_,rfl,RepS.zero _ _,HB9.out⟩
      |false=>
       have HSKB:=Lib.hid (fun W:World=>zdf s b W (by omega) hbs)
       have hsb:=zcz s.size (strL s) b (by rw[HLEN.out];omega) (by rw[HLEN.out];omega)
       rw[HLEN.out]at hsb
       have HS3:Hid (zbX (strL s) val i left=if atL (strL s) (zaY (strL s) b)≠58 then(zeroJ,zaY (strL s) b,lf,50)else zfb (strL s) val true (zas (strL s) val true f false) (zaY (strL s) (zaY (strL s) b+1)) lf T ks vs):=Lib.hid (HS2.out.trans (if_neg (by decide)))
       obtain⟨a2,ha2⟩: ∃a,a=zaY (strL s) b:=⟨_,rfl⟩
       rw[←ha2]at HSKB hsb HS3
       have HCA:=Lib.hid (fun W:World=>zay s a2 W (by omega) (by omega))
       have HLT2:Hid (atL (strL s) a2≠ -1→a2<s.size):=Lib.hid (fun h=>by rw[←HLEN.out];exact zav h)
       clear HS2 ha2
       by_cases h58:atL (strL s) a2=58
       ·as_aux_lemma=>
         have ha2l:=HLT2.out (by omega)
         have HSKC:=Lib.hid (fun W:World=>zcf s ((a2:Int)+1) (a2+1) W (by omega) (by omega) (by omega))
         have hsc:=zcz s.size (strL s) (a2+1) (by rw[HLEN.out];omega) (by rw[HLEN.out];omega)
         rw[HLEN.out]at hsc
         have HS4:Hid (zbX (strL s) val i left=zfb (strL s) val true (zas (strL s) val true f false) (zaY (strL s) (a2+1)) lf T ks vs):=Lib.hid (HS3.out.trans (if_neg (fun h=>h h58)))
         obtain⟨a3,ha3⟩: ∃a,a=zaY (strL s) (a2+1):=⟨_,rfl⟩
         rw[←ha3]at HSKC hsc HS4
         rw[h58]at HCA
         clear HS3 h58 ha3 HLT2
         go_wp2_with(first|(go_at_call 131;(with_reducible refine(HQ.out _).mono ?_);rintro e wq ⟨rfl,hbq⟩;have HBQ:=Lib.hid hbq;have hb8q:=Blk.below hb8 hbq hb8.lt;have hb13q:=Blk.below hb13 hbq hb13.lt;have HBQ2:=Lib.hid (HB.out.trans (hbq.mono HB.out.size));obtain⟨q0,q1,q2,q3,q4⟩:wq.cell? ⟨W.heap.size+1,0,none⟩=some (.int .i64 5)∧wq.cell? ⟨W.heap.size+1,1,none⟩=some (.int .i64 0)∧wq.cell? ⟨W.heap.size+1,2,none⟩=some (.string ⟨#[]⟩)∧wq.cell? ⟨W.heap.size+1,3,none⟩=some (vL)∧wq.cell? ⟨W.heap.size+1,4,none⟩=some (vK):=⟨hb13q.cell 0,hb13q.cell 1,hb13q.cell 2,hb13q.cell 3,hb13q.cell 4⟩;clear hbq)|(go_at_call 14;(with_reducible refine(HGET.out _ (RepS.toJ _ _ (RepS.keeps (Keeps.below HBQ.out (fun _ _ h=>h)) (fun _ h _=>h) _ _ HOR.out))).mono ?_);rintro e wg ⟨v0,rfl,hv0,hbg⟩;obtain⟨vk0,B,b9,rfl,_,hk0,_,_⟩:=hv0.open;obtain⟨M,m9,rfl,_,_⟩:=hk0.open;obtain⟨y0,hy0⟩: ∃a,a=y.kind:=⟨_,rfl⟩;obtain⟨y1,hy1⟩: ∃a,a=y.n:=⟨_,rfl⟩;obtain⟨y2,hy2⟩: ∃a,a=y.s:=⟨_,rfl⟩;obtain⟨y3,hy3⟩: ∃a,a=y.l.length:=⟨_,rfl⟩;obtain⟨y4,hy4⟩: ∃a,a=y.k.length:=⟨_,rfl⟩;rw[←hy0,←hy1,←hy2,←hy3,←hy4];clear hy0 hy1 hy2 hy3 hy4 hv0 hk0;have HBG:=Lib.hid (HBQ.out.trans (hbg.mono HBQ.out.size));clear hbg)|(refine zaK rfl (some 19) rfl _ rfl _ zdY ?_;intro g19 wa hg19 hb19 hgra;have HGA:=Lib.hid hgra;have HG19:=Lib.hid hg19;clear hgra hg19;try go_frame)|(refine zaQ rfl none rfl _ (.tmp 19) _ rfl g19 0 [.int .i64 y0,.int .i64 y1,.string y2,.slice B y3 b9,.slice M y4 m9] rfl rfl _ _ hb19 (by simp[zeros5]) zaa (by intro v hv;simp at hv;rcases hv with rfl|rfl|rfl|rfl|rfl<;>rfl) ?_;intro wb hb19' hgrb;have HWB:=Lib.hid (zao HBG.out HGA.out HG19.out hgrb);have HWBZ:=Lib.hid (Nat.le_trans hsz HWB.out.size);clear hgrb hb19';have hb8b:=Blk.below hb8 HWB.out hb8.lt;have hb13b:=Blk.below hb13 HWB.out hb13.lt;have HBB:=Lib.hid (HB.out.trans (HWB.out.mono HB.out.size));obtain⟨p0,p1,p2,p3,p4⟩:wb.cell? ⟨W.heap.size+1,0,none⟩=some (.int .i64 5)∧wb.cell? ⟨W.heap.size+1,1,none⟩=some (.int .i64 0)∧wb.cell? ⟨W.heap.size+1,2,none⟩=some (.string ⟨#[]⟩)∧wb.cell? ⟨W.heap.size+1,3,none⟩=some (vL)∧wb.cell? ⟨W.heap.size+1,4,none⟩=some (vK):=⟨hb13b.cell 0,hb13b.cell 1,hb13b.cell 2,hb13b.cell 3,hb13b.cell 4⟩;try go_frame)|(go_at_call 95;(with_reducible refine(HSKB.out _).mono ?_);rintro e w' ⟨rfl,rfl⟩)|(go_at_call 127;(with_reducible refine(HCA.out _).mono ?_);rintro e w' ⟨rfl,rfl⟩)|(go_at_call 95;(with_reducible refine(HSKC.out _).mono ?_);rintro e w' ⟨rfl,rfl⟩))
         go_meet
         case rel=>exact⟨a3,T,rfl,rfl,hTs,by omega,hsc.2,HWB.out,HS4⟩
       ·as_aux_lemma=>
         have HR:Hid (zbX (strL s) val i left=(zeroJ,a2,lf,50)):=Lib.hid (HS3.out.trans (if_pos h58))
         obtain⟨c0,hc0⟩: ∃c,c=atL (strL s) a2:=⟨_,rfl⟩
         rw[←hc0]at HCA h58
         obtain⟨u1,u2⟩:=zbd h58
         clear h58 HS3 hc0 HLT2
         go_wp2_with(first|(go_at_call 131;(with_reducible refine(HQ.out _).mono ?_);rintro e wq ⟨rfl,hbq⟩;have HBQ:=Lib.hid hbq;have hb8q:=Blk.below hb8 hbq hb8.lt;have hb13q:=Blk.below hb13 hbq hb13.lt;have HBQ2:=Lib.hid (HB.out.trans (hbq.mono HB.out.size));obtain⟨q0,q1,q2,q3,q4⟩:wq.cell? ⟨W.heap.size+1,0,none⟩=some (.int .i64 5)∧wq.cell? ⟨W.heap.size+1,1,none⟩=some (.int .i64 0)∧wq.cell? ⟨W.heap.size+1,2,none⟩=some (.string ⟨#[]⟩)∧wq.cell? ⟨W.heap.size+1,3,none⟩=some (vL)∧wq.cell? ⟨W.heap.size+1,4,none⟩=some (vK):=⟨hb13q.cell 0,hb13q.cell 1,hb13q.cell 2,hb13q.cell 3,hb13q.cell 4⟩;clear hbq)|(go_at_call 14;(with_reducible refine(HGET.out _ (RepS.toJ _ _ (RepS.keeps (Keeps.below HBQ.out (fun _ _ h=>h)) (fun _ h _=>h) _ _ HOR.out))).mono ?_);rintro e wg ⟨v0,rfl,hv0,hbg⟩;obtain⟨vk0,B,b9,rfl,_,hk0,_,_⟩:=hv0.open;obtain⟨M,m9,rfl,_,_⟩:=hk0.open;obtain⟨y0,hy0⟩: ∃a,a=y.kind:=⟨_,rfl⟩;obtain⟨y1,hy1⟩: ∃a,a=y.n:=⟨_,rfl⟩;obtain⟨y2,hy2⟩: ∃a,a=y.s:=⟨_,rfl⟩;obtain⟨y3,hy3⟩: ∃a,a=y.l.length:=⟨_,rfl⟩;obtain⟨y4,hy4⟩: ∃a,a=y.k.length:=⟨_,rfl⟩;rw[←hy0,←hy1,←hy2,←hy3,←hy4];clear hy0 hy1 hy2 hy3 hy4 hv0 hk0;have HBG:=Lib.hid (HBQ.out.trans (hbg.mono HBQ.out.size));clear hbg)|(refine zaK rfl (some 19) rfl _ rfl _ zdY ?_;intro g19 wa hg19 hb19 hgra;have HGA:=Lib.hid hgra;have HG19:=Lib.hid hg19;clear hgra hg19;try go_frame)|(refine zaQ rfl none rfl _ (.tmp 19) _ rfl g19 0 [.int .i64 y0,.int .i64 y1,.string y2,.slice B y3 b9,.slice M y4 m9] rfl rfl _ _ hb19 (by simp[zeros5]) zaa (by intro v hv;simp at hv;rcases hv with rfl|rfl|rfl|rfl|rfl<;>rfl) ?_;intro wb hb19' hgrb;have HWB:=Lib.hid (zao HBG.out HGA.out HG19.out hgrb);have HWBZ:=Lib.hid (Nat.le_trans hsz HWB.out.size);clear hgrb hb19';have hb8b:=Blk.below hb8 HWB.out hb8.lt;have hb13b:=Blk.below hb13 HWB.out hb13.lt;have HBB:=Lib.hid (HB.out.trans (HWB.out.mono HB.out.size));obtain⟨p0,p1,p2,p3,p4⟩:wb.cell? ⟨W.heap.size+1,0,none⟩=some (.int .i64 5)∧wb.cell? ⟨W.heap.size+1,1,none⟩=some (.int .i64 0)∧wb.cell? ⟨W.heap.size+1,2,none⟩=some (.string ⟨#[]⟩)∧wb.cell? ⟨W.heap.size+1,3,none⟩=some (vL)∧wb.cell? ⟨W.heap.size+1,4,none⟩=some (vK):=⟨hb13b.cell 0,hb13b.cell 1,hb13b.cell 2,hb13b.cell 3,hb13b.cell 4⟩;try go_frame)|(go_at_call 95;(with_reducible refine(HSKB.out _).mono ?_);rintro e w' ⟨rfl,rfl⟩)|(go_at_call 127;(with_reducible refine(HCA.out _).mono ?_);rintro e w' ⟨rfl,rfl⟩)|(refine zaQ rfl none rfl _ (.tmp 8) _ rfl W.heap.size 0 [.int .i64 0,.int .i64 0,.string ⟨#[]⟩,.slice none 0 0,.slice none 0 0] rfl rfl _ _ hb8b (by simp[zeros5]) zaa (by intro v hv;simp at hv;rcases hv with rfl|rfl|rfl|rfl|rfl<;>rfl) ?_;intro w9 hb9 hgr;rw[zaW _ _ (by simp[zeros5])]at hb9;have HB9:=Lib.hid (Below.grown HBB.out hgr (Below.size HBB.out) (by intro k hk;injection hk with hk;omega));have HG9:=Lib.hid hgr;clear hgr;try go_frame))
         refine bodyPost_ret (v:= .tuple #[.agg #[.int .i64 0,.int .i64 0,.string ⟨#[]⟩,.slice none 0 0,.slice none 0 0],.int .i64 (a2:Int),.int .i64 lf,.int .i64 50]) (zak Tryz.results132 _ _ W.heap.size _ [.int .i64 0,.int .i64 0,.string ⟨#[]⟩,.slice none 0 0,.slice none 0 0] _ rfl hb9 Tryz.underlying27 rfl zaa) rfl ?_
         rw[HR.out]
         exact⟨_,rfl,RepS.zero _ _,HB9.out⟩
     ·as_aux_lemma=>
       have HR:Hid (zbX (strL s) val i left=(zeroJ,b,lf,er)):=Lib.hid (HSTEP.out.trans (if_pos her))
       obtain⟨q1,q2⟩:=zbd her
       clear HSTEP her hql hqg
       go_wp2_with(first|(go_at_call 131;(with_reducible refine(HQ.out _).mono ?_);rintro e wq ⟨rfl,hbq⟩;have HBQ:=Lib.hid hbq;have hb8q:=Blk.below hb8 hbq hb8.lt;have hb13q:=Blk.below hb13 hbq hb13.lt;have HBQ2:=Lib.hid (HB.out.trans (hbq.mono HB.out.size));obtain⟨q0,q1,q2,q3,q4⟩:wq.cell? ⟨W.heap.size+1,0,none⟩=some (.int .i64 5)∧wq.cell? ⟨W.heap.size+1,1,none⟩=some (.int .i64 0)∧wq.cell? ⟨W.heap.size+1,2,none⟩=some (.string ⟨#[]⟩)∧wq.cell? ⟨W.heap.size+1,3,none⟩=some (vL)∧wq.cell? ⟨W.heap.size+1,4,none⟩=some (vK):=⟨hb13q.cell 0,hb13q.cell 1,hb13q.cell 2,hb13q.cell 3,hb13q.cell 4⟩;clear hbq)|(refine zaQ rfl none rfl _ (.tmp 8) _ rfl W.heap.size 0 [.int .i64 0,.int .i64 0,.string ⟨#[]⟩,.slice none 0 0,.slice none 0 0] rfl rfl _ _ hb8q (by simp[zeros5]) zaa (by intro v hv;simp at hv;rcases hv with rfl|rfl|rfl|rfl|rfl<;>rfl) ?_;intro w9 hb9 hgr;rw[zaW _ _ (by simp[zeros5])]at hb9;have HB9:=Lib.hid (Below.grown HBQ2.out hgr (Below.size HBQ2.out) (by intro k hk;injection hk with hk;omega));have HG9:=Lib.hid hgr;clear hgr;try go_frame))
       refine bodyPost_ret (v:= .tuple #[.agg #[.int .i64 0,.int .i64 0,.string ⟨#[]⟩,.slice none 0 0,.slice none 0 0],.int .i64 (b:Int),.int .i64 lf,.int .i64 er]) (zak Tryz.results132 _ _ W.heap.size _ [.int .i64 0,.int .i64 0,.string ⟨#[]⟩,.slice none 0 0,.slice none 0 0] _ rfl hb9 Tryz.underlying27 rfl zaa) rfl ?_
       rw[HR.out]
       exact⟨_,rfl,RepS.zero _ _,HB9.out⟩
    case rest=>
     obtain⟨a3,T,rfl,rfl,hTs,hk3,ha3s,hwb,HS4⟩:=hcut
     rename World=>wb
     have HWB:=Lib.hid hwb
     have HWBZ:=Lib.hid (Nat.le_trans hsz hwb.size)
     have hb8b:=Blk.below hb8 hwb hb8.lt
     have hb13b:=Blk.below hb13 hwb hb13.lt
     have HBB:=Lib.hid (HB.out.trans (hwb.mono HB.out.size))
     obtain⟨p0,p1,p2,p3,p4⟩:wb.cell? ⟨W.heap.size+1,0,none⟩=some (.int .i64 5)∧wb.cell? ⟨W.heap.size+1,1,none⟩=some (.int .i64 0)∧wb.cell? ⟨W.heap.size+1,2,none⟩=some (.string ⟨#[]⟩)∧wb.cell? ⟨W.heap.size+1,3,none⟩=some (vL)∧wb.cell? ⟨W.heap.size+1,4,none⟩=some (vK):=⟨hb13b.cell 0,hb13b.cell 1,hb13b.cell 2,hb13b.cell 3,hb13b.cell 4⟩
     clear hwb HST0
     have HVC:=Lib.hid (fun W:World=>HV.out.calls a3 lf W (by omega) hf0 hf1)
     have hmv:=HV.out.moves a3 lf (by omega) hf0 hf1
     obtain⟨r,hr⟩: ∃r,r=val a3 lf:=⟨_,rfl⟩
     have HIT:Hid (zbX (strL s) val i left=if r.2.2.2≠0 then(zeroJ,r.2.1,r.2.2.1,r.2.2.2)else if atL (strL s) r.2.1≠44∧atL (strL s) r.2.1≠125 then(zeroJ,r.2.1,r.2.2.1,50)else zas (strL s) val true f false r.2.1 r.2.2.1 (zaw T r.1 false ks vs).1 (zaw T r.1 false ks vs).2):=Lib.hid (by
      rw[HS4.out,hr];rfl)
     rw[←hr]at HVC hmv
     clear hr HS4
     obtain⟨x,p,n,ev⟩:=r
     by_cases he:ev=0
     ·obtain⟨mv0,mv1,n0,n1⟩:a3<p∧p≤s.size∧0≤n∧n≤256:=hmv he
      have HC2:=Lib.hid (fun W:World=>zay s p W (by omega) (by omega))
      have HIT2:Hid (zbX (strL s) val i left=if atL (strL s) p≠44∧atL (strL s) p≠125 then(zeroJ,p,n,50)else zas (strL s) val true f false p n (zaw T x false ks vs).1 (zaw T x false ks vs).2):=Lib.hid (HIT.out.trans (if_neg (fun h=>h he)))
      have HPUT:=Lib.hid (fun(W':World) (vx:Value) (h1:RepS W' (fun b=>W.heap.size+2≤b∧b<W'.heap.size) (.mk 5 0 ⟨#[]⟩ vs ks) (.agg #[.int .i64 5,.int .i64 0,.string ⟨#[]⟩,vL,vK])) (h2:RepS W' (fun b=>W.heap.size+2≤b∧b<W'.heap.size) x vx)=>zoy 5 0 ⟨#[]⟩ ks vs T x (.agg #[.int .i64 5,.int .i64 0,.string ⟨#[]⟩,vL,vK]) vx W' (fun b=>W.heap.size+2≤b∧b<W'.heap.size) (fun b h=>h.2) h1 h2 HKL.out (by omega) (by omega))
      have hpl:=zou T x ks false vs
      unfold PutTells at HPUT
      obtain⟨P,hP⟩: ∃P,P=zaw T x false ks vs:=⟨_,rfl⟩
      rw[←hP]at HPUT HIT2 hpl
      obtain⟨pl0,pl1⟩:=hpl
      rw[if_neg (by decide)]at pl1
      obtain⟨v1,v2⟩:=zbl he
      obtain⟨c2,hc2⟩: ∃c,c=atL (strL s) p:=⟨_,rfl⟩
      rw[←hc2]at HC2 HIT2
      clear he hmv HIT hc2 hP
      by_cases h44:c2=44
      ·as_aux_lemma=>
        obtain⟨g1,g2⟩:=zbl h44
        have HR:Hid (zbX (strL s) val i left=zas (strL s) val true f false p n P.1 P.2):=Lib.hid (HIT2.out.trans (if_neg (fun h=>h.1 h44)))
        clear h44 HIT2
        go_wp2_with(first|(go_at_call 94;(with_reducible refine(HVC.out _).mono ?_);rintro e w1 ⟨v,rfl,hrep,hbv⟩;obtain⟨vk,A,c9,rfl,_,⟨K,d9,rfl,_,_⟩,_,_⟩:=hrep.open;obtain⟨x0,hx0⟩: ∃a,a=x.kind:=⟨_,rfl⟩;obtain⟨x1,hx1⟩: ∃a,a=x.n:=⟨_,rfl⟩;obtain⟨x2,hx2⟩: ∃a,a=x.s:=⟨_,rfl⟩;obtain⟨x3,hx3⟩: ∃a,a=x.l.length:=⟨_,rfl⟩;obtain⟨x4,hx4⟩: ∃a,a=x.k.length:=⟨_,rfl⟩;rw[←hx0,←hx1,←hx2,←hx3,←hx4]at hrep⊢;have HREP:=Lib.hid hrep;have HBV:=Lib.hid hbv;clear hrep hx0 hx1 hx2 hx3 hx4 hbv)|(refine zaK rfl (some 21) rfl _ rfl _ zdY ?_;intro g21 w2 hg21 hb21 hgr2;have HG2:=Lib.hid hgr2;have HG21:=Lib.hid hg21;clear hgr2 hg21;try go_frame)|(refine zaQ rfl none rfl _ (.tmp 21) _ rfl g21 0 [.int .i64 x0,.int .i64 x1,.string x2,.slice A x3 c9,.slice K x4 d9] rfl rfl _ _ hb21 (by simp[zeros5]) zaa (by intro v hv;simp at hv;rcases hv with rfl|rfl|rfl|rfl|rfl<;>rfl) ?_;intro w3 hb21' hgr3;rw[zaW _ _ (by simp[zeros5])]at hb21';have HW3:=Lib.hid (zao HBV.out HG2.out HG21.out hgr3);have HX3:=Lib.hid (RepS.keeps (zca HG2.out HG21.out hgr3) (fun _ h _=>h) _ _ HREP.out);clear hgr3;have HB3:=Lib.hid (HBB.out.trans (HW3.out.mono HBB.out.size));have hb8':=Blk.below hb8b HW3.out hb8b.lt;have hb13':=Blk.below hb13b HW3.out hb13b.lt;obtain⟨b0,b1,b2,b3,b4⟩:w3.cell? ⟨W.heap.size+1,0,none⟩=some (.int .i64 5)∧w3.cell? ⟨W.heap.size+1,1,none⟩=some (.int .i64 0)∧w3.cell? ⟨W.heap.size+1,2,none⟩=some (.string ⟨#[]⟩)∧w3.cell? ⟨W.heap.size+1,3,none⟩=some (vL)∧w3.cell? ⟨W.heap.size+1,4,none⟩=some (vK):=⟨hb13'.cell 0,hb13'.cell 1,hb13'.cell 2,hb13'.cell 3,hb13'.cell 4⟩;obtain⟨d0,d1,d2,d3,d4⟩:w3.cell? ⟨g21,0,none⟩=some (.int .i64 x0)∧w3.cell? ⟨g21,1,none⟩=some (.int .i64 x1)∧w3.cell? ⟨g21,2,none⟩=some (.string x2)∧w3.cell? ⟨g21,3,none⟩=some (.slice A x3 c9)∧w3.cell? ⟨g21,4,none⟩=some (.slice K x4 d9):=⟨hb21'.cell 0,hb21'.cell 1,hb21'.cell 2,hb21'.cell 3,hb21'.cell 4⟩;try go_frame)|(go_at_call 11;(with_reducible refine(HPUT.out w3 _ (RepS.keeps (Keeps.below (HWB.out.trans (HW3.out.mono HWB.out.size)) (fun _ _ h=>h)) (fun b h hl=>⟨h,Nat.lt_of_lt_of_le hl (HWB.out.trans (HW3.out.mono HWB.out.size)).size⟩) _ _ HOR.out) (RepS.keeps (Keeps.refl _ _) (fun b h hl=>⟨Nat.le_trans HWBZ.out h,hl⟩) _ _ HX3.out)).mono ?_);rintro e w4 ⟨vp,rfl,hrp,hbp⟩;obtain⟨vkp,Ap,cp,rfl,_,⟨Kp,dp,rfl,_,_⟩,_,_⟩:=hrp.open;have HRP:=Lib.hid hrp;have HBP:=Lib.hid hbp;have hb13p:=Blk.below hb13' hbp hb13'.lt;have hb8p:=Blk.below hb8' hbp hb8'.lt;clear hrp hbp)|(refine zaQ rfl none rfl _ (.tmp 13) _ rfl (W.heap.size+1) 0 [.int .i64 5,.int .i64 0,.string ⟨#[]⟩,.slice Ap P.2.length cp,.slice Kp P.1.length dp] rfl rfl _ _ hb13p (by simp) zaa (by intro v hv;simp at hv;rcases hv with rfl|rfl|rfl|rfl|rfl<;>rfl) ?_;intro w5 hb5x hgr5;rw[zaW _ _ (by simp)]at hb5x;have HI2:=Lib.hid (ObjInv.put HI.out (HWB.out.trans ((HW3.out.mono HWB.out.size).trans (HBP.out.mono (Nat.le_trans HWB.out.size HW3.out.size)))) (RepS.keeps (Keeps.refl _ _) (fun b h _=>h.elim (fun h=>h.1) (fun h=>Nat.le_trans HWBZ.out (Nat.le_trans HW3.out.size h))) _ _ HRP.out) hb5x hgr5);clear hgr5;try go_frame)|(go_at_call 127;(with_reducible refine(HC2.out _).mono ?_);rintro e w' ⟨rfl,rfl⟩))
        go_roundw
        case rel=>exact⟨p,f,n,false,P.1,P.2,_,_,rfl,rfl,rfl,mv1,by omega,n0,n1,by omega,pl0,HR.out,HI2.out⟩
        case measure=>simp[intOf];omega
      ·obtain⟨g1,g2⟩:=zbd h44
       by_cases h125:c2=125
       ·as_aux_lemma=>
         obtain⟨g3,g4⟩:=zbl h125
         have HR:Hid (zbX (strL s) val i left=zas (strL s) val true f false p n P.1 P.2):=Lib.hid (HIT2.out.trans (if_neg (fun h=>h.2 h125)))
         clear h44 h125 HIT2
         go_wp2_with(first|(go_at_call 94;(with_reducible refine(HVC.out _).mono ?_);rintro e w1 ⟨v,rfl,hrep,hbv⟩;obtain⟨vk,A,c9,rfl,_,⟨K,d9,rfl,_,_⟩,_,_⟩:=hrep.open;obtain⟨x0,hx0⟩: ∃a,a=x.kind:=⟨_,rfl⟩;obtain⟨x1,hx1⟩: ∃a,a=x.n:=⟨_,rfl⟩;obtain⟨x2,hx2⟩: ∃a,a=x.s:=⟨_,rfl⟩;obtain⟨x3,hx3⟩: ∃a,a=x.l.length:=⟨_,rfl⟩;obtain⟨x4,hx4⟩: ∃a,a=x.k.length:=⟨_,rfl⟩;rw[←hx0,←hx1,←hx2,←hx3,←hx4]at hrep⊢;have HREP:=Lib.hid hrep;have HBV:=Lib.hid hbv;clear hrep hx0 hx1 hx2 hx3 hx4 hbv)|(refine zaK rfl (some 21) rfl _ rfl _ zdY ?_;intro g21 w2 hg21 hb21 hgr2;have HG2:=Lib.hid hgr2;have HG21:=Lib.hid hg21;clear hgr2 hg21;try go_frame)|(refine zaQ rfl none rfl _ (.tmp 21) _ rfl g21 0 [.int .i64 x0,.int .i64 x1,.string x2,.slice A x3 c9,.slice K x4 d9] rfl rfl _ _ hb21 (by simp[zeros5]) zaa (by intro v hv;simp at hv;rcases hv with rfl|rfl|rfl|rfl|rfl<;>rfl) ?_;intro w3 hb21' hgr3;rw[zaW _ _ (by simp[zeros5])]at hb21';have HW3:=Lib.hid (zao HBV.out HG2.out HG21.out hgr3);have HX3:=Lib.hid (RepS.keeps (zca HG2.out HG21.out hgr3) (fun _ h _=>h) _ _ HREP.out);clear hgr3;have HB3:=Lib.hid (HBB.out.trans (HW3.out.mono HBB.out.size));have hb8':=Blk.below hb8b HW3.out hb8b.lt;have hb13':=Blk.below hb13b HW3.out hb13b.lt;obtain⟨b0,b1,b2,b3,b4⟩:w3.cell? ⟨W.heap.size+1,0,none⟩=some (.int .i64 5)∧w3.cell? ⟨W.heap.size+1,1,none⟩=some (.int .i64 0)∧w3.cell? ⟨W.heap.size+1,2,none⟩=some (.string ⟨#[]⟩)∧w3.cell? ⟨W.heap.size+1,3,none⟩=some (vL)∧w3.cell? ⟨W.heap.size+1,4,none⟩=some (vK):=⟨hb13'.cell 0,hb13'.cell 1,hb13'.cell 2,hb13'.cell 3,hb13'.cell 4⟩;obtain⟨d0,d1,d2,d3,d4⟩:w3.cell? ⟨g21,0,none⟩=some (.int .i64 x0)∧w3.cell? ⟨g21,1,none⟩=some (.int .i64 x1)∧w3.cell? ⟨g21,2,none⟩=some (.string x2)∧w3.cell? ⟨g21,3,none⟩=some (.slice A x3 c9)∧w3.cell? ⟨g21,4,none⟩=some (.slice K x4 d9):=⟨hb21'.cell 0,hb21'.cell 1,hb21'.cell 2,hb21'.cell 3,hb21'.cell 4⟩;try go_frame)|(go_at_call 11;(with_reducible refine(HPUT.out w3 _ (RepS.keeps (Keeps.below (HWB.out.trans (HW3.out.mono HWB.out.size)) (fun _ _ h=>h)) (fun b h hl=>⟨h,Nat.lt_of_lt_of_le hl (HWB.out.trans (HW3.out.mono HWB.out.size)).size⟩) _ _ HOR.out) (RepS.keeps (Keeps.refl _ _) (fun b h hl=>⟨Nat.le_trans HWBZ.out h,hl⟩) _ _ HX3.out)).mono ?_);rintro e w4 ⟨vp,rfl,hrp,hbp⟩;obtain⟨vkp,Ap,cp,rfl,_,⟨Kp,dp,rfl,_,_⟩,_,_⟩:=hrp.open;have HRP:=Lib.hid hrp;have HBP:=Lib.hid hbp;have hb13p:=Blk.below hb13' hbp hb13'.lt;have hb8p:=Blk.below hb8' hbp hb8'.lt;clear hrp hbp)|(refine zaQ rfl none rfl _ (.tmp 13) _ rfl (W.heap.size+1) 0 [.int .i64 5,.int .i64 0,.string ⟨#[]⟩,.slice Ap P.2.length cp,.slice Kp P.1.length dp] rfl rfl _ _ hb13p (by simp) zaa (by intro v hv;simp at hv;rcases hv with rfl|rfl|rfl|rfl|rfl<;>rfl) ?_;intro w5 hb5x hgr5;rw[zaW _ _ (by simp)]at hb5x;have HI2:=Lib.hid (ObjInv.put HI.out (HWB.out.trans ((HW3.out.mono HWB.out.size).trans (HBP.out.mono (Nat.le_trans HWB.out.size HW3.out.size)))) (RepS.keeps (Keeps.refl _ _) (fun b h _=>h.elim (fun h=>h.1) (fun h=>Nat.le_trans HWBZ.out (Nat.le_trans HW3.out.size h))) _ _ HRP.out) hb5x hgr5);clear hgr5;try go_frame)|(go_at_call 127;(with_reducible refine(HC2.out _).mono ?_);rintro e w' ⟨rfl,rfl⟩))
         go_roundw
         case rel=>exact⟨p,f,n,false,P.1,P.2,_,_,rfl,rfl,rfl,mv1,by omega,n0,n1,by omega,pl0,HR.out,HI2.out⟩
         case measure=>simp[intOf];omega
       ·as_aux_lemma=>
         obtain⟨g3,g4⟩:=zbd h125
         have HR:Hid (zbX (strL s) val i left=(zeroJ,p,n,50)):=Lib.hid (HIT2.out.trans (if_pos ⟨h44,h125⟩))
         clear h44 h125 HIT2
         go_wp2_with(first|(go_at_call 94;(with_reducible refine(HVC.out _).mono ?_);rintro e w1 ⟨v,rfl,hrep,hbv⟩;obtain⟨vk,A,c9,rfl,_,⟨K,d9,rfl,_,_⟩,_,_⟩:=hrep.open;obtain⟨x0,hx0⟩: ∃a,a=x.kind:=⟨_,rfl⟩;obtain⟨x1,hx1⟩: ∃a,a=x.n:=⟨_,rfl⟩;obtain⟨x2,hx2⟩: ∃a,a=x.s:=⟨_,rfl⟩;obtain⟨x3,hx3⟩: ∃a,a=x.l.length:=⟨_,rfl⟩;obtain⟨x4,hx4⟩: ∃a,a=x.k.length:=⟨_,rfl⟩;rw[←hx0,←hx1,←hx2,←hx3,←hx4]at hrep⊢;have HREP:=Lib.hid hrep;have HBV:=Lib.hid hbv;clear hrep hx0 hx1 hx2 hx3 hx4 hbv)|(refine zaK rfl (some 21) rfl _ rfl _ zdY ?_;intro g21 w2 hg21 hb21 hgr2;have HG2:=Lib.hid hgr2;have HG21:=Lib.hid hg21;clear hgr2 hg21;try go_frame)|(refine zaQ rfl none rfl _ (.tmp 21) _ rfl g21 0 [.int .i64 x0,.int .i64 x1,.string x2,.slice A x3 c9,.slice K x4 d9] rfl rfl _ _ hb21 (by simp[zeros5]) zaa (by intro v hv;simp at hv;rcases hv with rfl|rfl|rfl|rfl|rfl<;>rfl) ?_;intro w3 hb21' hgr3;rw[zaW _ _ (by simp[zeros5])]at hb21';have HW3:=Lib.hid (zao HBV.out HG2.out HG21.out hgr3);have HX3:=Lib.hid (RepS.keeps (zca HG2.out HG21.out hgr3) (fun _ h _=>h) _ _ HREP.out);clear hgr3;have HB3:=Lib.hid (HBB.out.trans (HW3.out.mono HBB.out.size));have hb8':=Blk.below hb8b HW3.out hb8b.lt;have hb13':=Blk.below hb13b HW3.out hb13b.lt;obtain⟨b0,b1,b2,b3,b4⟩:w3.cell? ⟨W.heap.size+1,0,none⟩=some (.int .i64 5)∧w3.cell? ⟨W.heap.size+1,1,none⟩=some (.int .i64 0)∧w3.cell? ⟨W.heap.size+1,2,none⟩=some (.string ⟨#[]⟩)∧w3.cell? ⟨W.heap.size+1,3,none⟩=some (vL)∧w3.cell? ⟨W.heap.size+1,4,none⟩=some (vK):=⟨hb13'.cell 0,hb13'.cell 1,hb13'.cell 2,hb13'.cell 3,hb13'.cell 4⟩;obtain⟨d0,d1,d2,d3,d4⟩:w3.cell? ⟨g21,0,none⟩=some (.int .i64 x0)∧w3.cell? ⟨g21,1,none⟩=some (.int .i64 x1)∧w3.cell? ⟨g21,2,none⟩=some (.string x2)∧w3.cell? ⟨g21,3,none⟩=some (.slice A x3 c9)∧w3.cell? ⟨g21,4,none⟩=some (.slice K x4 d9):=⟨hb21'.cell 0,hb21'.cell 1,hb21'.cell 2,hb21'.cell 3,hb21'.cell 4⟩;try go_frame)|(go_at_call 11;(with_reducible refine(HPUT.out w3 _ (RepS.keeps (Keeps.below (HWB.out.trans (HW3.out.mono HWB.out.size)) (fun _ _ h=>h)) (fun b h hl=>⟨h,Nat.lt_of_lt_of_le hl (HWB.out.trans (HW3.out.mono HWB.out.size)).size⟩) _ _ HOR.out) (RepS.keeps (Keeps.refl _ _) (fun b h hl=>⟨Nat.le_trans HWBZ.out h,hl⟩) _ _ HX3.out)).mono ?_);rintro e w4 ⟨vp,rfl,hrp,hbp⟩;obtain⟨vkp,Ap,cp,rfl,_,⟨Kp,dp,rfl,_,_⟩,_,_⟩:=hrp.open;have HRP:=Lib.hid hrp;have HBP:=Lib.hid hbp;have hb13p:=Blk.below hb13' hbp hb13'.lt;have hb8p:=Blk.below hb8' hbp hb8'.lt;clear hrp hbp)|(refine zaQ rfl none rfl _ (.tmp 13) _ rfl (W.heap.size+1) 0 [.int .i64 5,.int .i64 0,.string ⟨#[]⟩,.slice Ap P.2.length cp,.slice Kp P.1.length dp] rfl rfl _ _ hb13p (by simp) zaa (by intro v hv;simp at hv;rcases hv with rfl|rfl|rfl|rfl|rfl<;>rfl) ?_;intro w5 hb5x hgr5;rw[zaW _ _ (by simp)]at hb5x;have HI2:=Lib.hid (ObjInv.put HI.out (HWB.out.trans ((HW3.out.mono HWB.out.size).trans (HBP.out.mono (Nat.le_trans HWB.out.size HW3.out.size)))) (RepS.keeps (Keeps.refl _ _) (fun b h _=>h.elim (fun h=>h.1) (fun h=>Nat.le_trans HWBZ.out (Nat.le_trans HW3.out.size h))) _ _ HRP.out) hb5x hgr5);clear hgr5;try go_frame)|(go_at_call 127;(with_reducible refine(HC2.out _).mono ?_);rintro e w' ⟨rfl,rfl⟩)|(refine zaQ rfl none rfl _ (.tmp 8) _ rfl W.heap.size 0 [.int .i64 0,.int .i64 0,.string ⟨#[]⟩,.slice none 0 0,.slice none 0 0] rfl rfl _ _ HI2.out.1 (by simp[zeros5]) zaa (by intro v hv;simp at hv;rcases hv with rfl|rfl|rfl|rfl|rfl<;>rfl) ?_;intro w9 hb9 hgr;rw[zaW _ _ (by simp[zeros5])]at hb9;have HB9:=Lib.hid (Below.grown HI2.out.2.2.2.1 hgr (Below.size HI2.out.2.2.2.1) (by intro k hk;injection hk with hk;omega));have HG9:=Lib.hid hgr;clear hgr;try go_frame))
         refine bodyPost_ret (v:= .tuple #[.agg #[.int .i64 0,.int .i64 0,.string ⟨#[]⟩,.slice none 0 0,.slice none 0 0],.int .i64 (p:Int),.int .i64 n,.int .i64 50]) (zak Tryz.results132 _ _ W.heap.size _ [.int .i64 0,.int .i64 0,.string ⟨#[]⟩,.slice none 0 0,.slice none 0 0] _ rfl hb9 Tryz.underlying27 rfl zaa) rfl ?_
         rw[HR.out]
         exact⟨_,rfl,RepS.zero _ _,HB9.out⟩
     ·as_aux_lemma=>
       have HR:Hid (zbX (strL s) val i left=(zeroJ,p,n,ev)):=Lib.hid (HIT.out.trans (if_pos he))
       obtain⟨v1,v2⟩:=zbd he
       clear he hmv HIT
       go_wp2_with(first|(go_at_call 94;(with_reducible refine(HVC.out _).mono ?_);rintro e w1 ⟨v,rfl,hrep,hbv⟩;obtain⟨vk,A,c9,rfl,_,⟨K,d9,rfl,_,_⟩,_,_⟩:=hrep.open;obtain⟨x0,hx0⟩: ∃a,a=x.kind:=⟨_,rfl⟩;obtain⟨x1,hx1⟩: ∃a,a=x.n:=⟨_,rfl⟩;obtain⟨x2,hx2⟩: ∃a,a=x.s:=⟨_,rfl⟩;obtain⟨x3,hx3⟩: ∃a,a=x.l.length:=⟨_,rfl⟩;obtain⟨x4,hx4⟩: ∃a,a=x.k.length:=⟨_,rfl⟩;rw[←hx0,←hx1,←hx2,←hx3,←hx4]at hrep⊢;have HREP:=Lib.hid hrep;have HBV:=Lib.hid hbv;clear hrep hx0 hx1 hx2 hx3 hx4 hbv)|(refine zaK rfl (some 21) rfl _ rfl _ zdY ?_;intro g21 w2 hg21 hb21 hgr2;have HG2:=Lib.hid hgr2;have HG21:=Lib.hid hg21;clear hgr2 hg21;try go_frame)|(refine zaQ rfl none rfl _ (.tmp 21) _ rfl g21 0 [.int .i64 x0,.int .i64 x1,.string x2,.slice A x3 c9,.slice K x4 d9] rfl rfl _ _ hb21 (by simp[zeros5]) zaa (by intro v hv;simp at hv;rcases hv with rfl|rfl|rfl|rfl|rfl<;>rfl) ?_;intro w3 hb21' hgr3;rw[zaW _ _ (by simp[zeros5])]at hb21';have HW3:=Lib.hid (zao HBV.out HG2.out HG21.out hgr3);have HX3:=Lib.hid (RepS.keeps (zca HG2.out HG21.out hgr3) (fun _ h _=>h) _ _ HREP.out);clear hgr3;have HB3:=Lib.hid (HBB.out.trans (HW3.out.mono HBB.out.size));have hb8':=Blk.below hb8b HW3.out hb8b.lt;have hb13':=Blk.below hb13b HW3.out hb13b.lt;try go_frame)|(refine zaQ rfl none rfl _ (.tmp 8) _ rfl W.heap.size 0 [.int .i64 0,.int .i64 0,.string ⟨#[]⟩,.slice none 0 0,.slice none 0 0] rfl rfl _ _ hb8' (by simp[zeros5]) zaa (by intro v hv;simp at hv;rcases hv with rfl|rfl|rfl|rfl|rfl<;>rfl) ?_;intro w9 hb9 hgr;rw[zaW _ _ (by simp[zeros5])]at hb9;have HB9:=Lib.hid (Below.grown HB3.out hgr (Below.size HB3.out) (by intro k hk;injection hk with hk;omega));have HG9:=Lib.hid hgr;clear hgr;try go_frame))
       refine bodyPost_ret (v:= .tuple #[.agg #[.int .i64 0,.int .i64 0,.string ⟨#[]⟩,.slice none 0 0,.slice none 0 0],.int .i64 (p:Int),.int .i64 n,.int .i64 ev]) (zak Tryz.results132 _ _ W.heap.size _ [.int .i64 0,.int .i64 0,.string ⟨#[]⟩,.slice none 0 0,.slice none 0 0] _ rfl hb9 Tryz.underlying27 rfl zaa) rfl ?_
       rw[HR.out]
       exact⟨_,rfl,RepS.zero _ _,HB9.out⟩
theorem refValueL (s:ByteArray) (hs:s.size≤5000): ∀(d:Nat),d≤8→ ∀(i:Nat) (left:Int) (W:World),i≤s.size→0≤left→left≤256→
  Calls Tryz.prog 94 #[.string s,.int .i64 (i:Int),.int .i64 (9-(d:Int)),.int .i64 left] W (zbp W (zag (strL s) d i left))
 |0,_,i,left,W,hi,h0,h1=>by
  rw[zag]
  exact zjx s hs 9 (fun i left=>(zeroJ,i,left,51)) i left hi h0 h1 W (fun _=>rfl) (fun _ h=>absurd (by decide) h)
 |d+1,hd,i,left,W,hi,h0,h1=>by
  rw[zag]
  have hv:ValOk s (8-(d:Int)) (zag (strL s) d):=⟨fun i left W hi h0 h1=>by
    have:=refValueL s hs d (by omega) i left W hi h0 h1
    rwa [show(9:Int)-(d:Int)=8-(d:Int)+1 by omega]at this,fun i left hi h0 h1 he=>by
    have:=zbZ (strL s) d i left (by rw[zaX];exact hi) he
    rw[zaX]at this
    exact⟨this.1,this.2.1,this.2.2.1,by omega⟩⟩
  have:=zjx s hs (8-(d:Int)) (zbX (strL s) (zag (strL s) d)) i left hi h0 h1 W (fun h=>absurd h (by omega)) (fun hc hd8 hlt hl W=>by
   rcases hc with hc|hc
   ·exact refMany_list s hs (8-(d:Int)) (by omega) (by omega) (zag (strL s) d) hv i (left-1) hlt (by omega) (by omega) W hc
   ·exact refMany_obj s hs (8-(d:Int)) (by omega) (by omega) (zag (strL s) d) hv i (left-1) hlt (by omega) (by omega) W hc)
  rwa [show(9:Int)-((d+1:Nat):Int)=8-(d:Int)by omega]
theorem refParse_any (s:ByteArray) (W:World) (hs:s.size≤9223372036854775807):Calls Tryz.prog 66 #[.string s] W (zml W (zed (strL s))):=
 refParse_of s W hs fun h W=>by
  have:=refValueL s (by omega) 8 (Nat.le_refl _) (zaY (strL s) 0) 256 W (by have:=(zan (l:=strL s) (i:=0) (Nat.zero_le _)).2;rwa [zaX]at this) (by decide) (by decide)
  exact this
end Go.Proofs.YtjfgmgkhinehaaaGreatDoor
