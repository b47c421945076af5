
import Derived.Test.YtjfgmgkhinehaaaGreatDoorCq01
import Derived.Test.YtjfgmgkhinehaaaGreatDoorCq04
import Derived.Test.YtjfgmgkhinehaaaGreatDoorCv02
set_option maxRecDepth 100000
set_option maxHeartbeats 16000000
set_option linter.all false
namespace Go.Proofs.YtjfgmgkhinehaaaGreatDoor
open Go Go.RowKit
theorem sameJ_iff {a b:J}:zol a b=true↔a.kind=b.kind∧a.n=b.n∧a.s=b.s∧a.k=b.k∧zoj a.l b.l=true:=by
 cases a;cases b
 simp[zol,J.kind,J.n,J.s,J.k,J.l,and_assoc]
theorem sameLs_iff: ∀{l m:List J},zoj l m=true↔l.length=m.length∧ ∀i (h1:i<l.length) (h2:i<m.length),zol l[i] m[i]=true
 |[],[]=>by simp[zoj]
 |[],_::_=>by simp[zoj]
 |_::_,[]=>by simp[zoj]
 |x::r,y::t=>by
  rw[zoj,Bool.and_eq_true,sameLs_iff (l:=r) (m:=t)]
  constructor
  ·rintro⟨h1,h2,h3⟩
   refine⟨by simp[h2],fun i hi1 hi2=> ?_⟩
   cases i with
   |zero=>exact h1
   |succ i=>exact h3 i (by simpa using hi1) (by simpa using hi2)
  ·rintro⟨h1,h2⟩
   exact⟨h2 0 (by simp) (by simp),by simpa using h1,fun i hi1 hi2=>h2 (i+1) (by simpa using hi1) (by simpa using hi2)⟩
theorem refSame_ne (a b:J) (va vb:Value) (W:World) (ha:RepJ W a va) (hb:RepJ W b vb) (h: ¬(a.kind=b.kind∧a.n=b.n∧a.s=b.s∧a.l.length=b.l.length∧a.k.length=b.k.length)):
  Calls Tryz.prog 15 #[va,vb] W fun e w'=>e= .returned (.bool (zol a b))∧Below W.heap.size W w':=by
 obtain⟨vk,A,c,rfl,hs,hk,hl,hc⟩:=ha.open
 obtain⟨vk',A',c',rfl,hs',hk',hl',hc'⟩:=hb.open
 obtain⟨K,d,rfl,hkl,hkc⟩:=hk.open
 obtain⟨K',d',rfl,hkl',hkc'⟩:=hk'.open
 have HR:Hid (zol a b=false):=Lib.hid (by
  rw[←Bool.not_eq_true,sameJ_iff]
  rintro⟨h1,h2,h3,h4,h5⟩
  exact h ⟨h1,h2,h3,(sameLs_iff.1 h5).1,by rw[h4]⟩)
 obtain⟨s,hs1⟩: ∃s,s=a.s:=⟨_,rfl⟩
 obtain⟨t,ht1⟩: ∃s,s=b.s:=⟨_,rfl⟩
 obtain⟨k1,hk1⟩: ∃k,k=a.kind:=⟨_,rfl⟩
 obtain⟨k2,hk2⟩: ∃k,k=b.kind:=⟨_,rfl⟩
 obtain⟨n1,hn1⟩: ∃k,k=a.n:=⟨_,rfl⟩
 obtain⟨n2,hn2⟩: ∃k,k=b.n:=⟨_,rfl⟩
 obtain⟨p1,hp1⟩: ∃k,k=a.l.length:=⟨_,rfl⟩
 obtain⟨p2,hp2⟩: ∃k,k=b.l.length:=⟨_,rfl⟩
 obtain⟨q1,hq1⟩: ∃k,k=a.k.length:=⟨_,rfl⟩
 obtain⟨q2,hq2⟩: ∃k,k=b.k.length:=⟨_,rfl⟩
 rw[←hs1,←ht1,←hk1,←hk2,←hn1,←hn2,←hp1,←hp2,←hq1,←hq2]at h
 rw[←hs1,←hk1,←hn1,←hp1,←hq1,←ht1,←hk2,←hn2,←hp2,←hq2]
 clear ha hb hk hk' hkc hkc' hc hc' hs hs' hs1 ht1 hk1 hk2 hn1 hn2 hp1 hp2 hq1 hq2 hl hl' hkl hkl'
 by_cases e1:k1=k2
 ·have b1:(k1==k2)=true:=by rw[beq_iff_eq];exact e1
  have c1:(k1 !=k2)=false:=by rw[bne,b1];rfl
  have E1:=Lib.hid e1
  by_cases e2:n1=n2
  ·have b2:(n1==n2)=true:=by rw[beq_iff_eq];exact e2
   have c2:(n1 !=n2)=false:=by rw[bne,b2];rfl
   have E2:=Lib.hid e2
   by_cases e3:s=t
   ·have b3:=beq_str e3
    have c3:(s.toList !=t.toList)=false:=by rw[bne,b3];rfl
    have E3:=Lib.hid e3
    by_cases e4:p1=p2
    ·have b4:((p1:Int)==(p2:Int))=true:=by rw[beq_iff_eq];omega
     have c4:((p1:Int)!=(p2:Int))=false:=by rw[bne,b4];rfl
     have e5: ¬q1=q2:=fun e5=>h ⟨e1,e2,e3,e4,e5⟩
     have b5:((q1:Int)==(q2:Int))=false:=by rw[beq_eq_false_iff_ne];omega
     have c5:((q1:Int)!=(q2:Int))=true:=by rw[bne,b5];rfl
     clear e1 e2 e3 e4 e5 h
     go_enter Tryz.func15,Tryz.ntmps15
     go_wp2
     go_ret
     rw[HR.out]
     exact⟨rfl,((Below.refl _ _).alloc (Nat.le_refl _) _).alloc (by simp) _⟩
    ·have b4:((p1:Int)==(p2:Int))=false:=by rw[beq_eq_false_iff_ne];omega
     have c4:((p1:Int)!=(p2:Int))=true:=by rw[bne,b4];rfl
     clear e1 e2 e3 e4 h
     go_enter Tryz.func15,Tryz.ntmps15
     go_wp2
     go_ret
     rw[HR.out]
     exact⟨rfl,((Below.refl _ _).alloc (Nat.le_refl _) _).alloc (by simp) _⟩
   ·have b3:=zig e3
    have c3:(s.toList !=t.toList)=true:=by rw[bne,b3];rfl
    clear e1 e2 e3 h
    go_enter Tryz.func15,Tryz.ntmps15
    go_wp2
    go_ret
    rw[HR.out]
    exact⟨rfl,((Below.refl _ _).alloc (Nat.le_refl _) _).alloc (by simp) _⟩
  ·have b2:(n1==n2)=false:=by rw[beq_eq_false_iff_ne];exact e2
   have c2:(n1 !=n2)=true:=by rw[bne,b2];rfl
   clear e1 e2 h
   go_enter Tryz.func15,Tryz.ntmps15
   go_wp2
   go_ret
   rw[HR.out]
   exact⟨rfl,((Below.refl _ _).alloc (Nat.le_refl _) _).alloc (by simp) _⟩
 ·have b1:(k1==k2)=false:=by rw[beq_eq_false_iff_ne];exact e1
  have c1:(k1 !=k2)=true:=by rw[bne,b1];rfl
  clear e1 h
  go_enter Tryz.func15,Tryz.ntmps15
  go_wp2
  go_ret
  rw[HR.out]
  exact⟨rfl,((Below.refl _ _).alloc (Nat.le_refl _) _).alloc (by simp) _⟩
theorem refSame_eq (a:J) (ih: ∀x∈a.l,∀(b:J) (va vb:Value) (W:World),RepJ W x va→RepJ W b vb→Calls Tryz.prog 15 #[va,vb] W fun e w'=>e= .returned (.bool (zol x b))∧Below W.heap.size W w')
  (b:J) (va vb:Value) (W:World) (ha:RepJ W a va) (hb:RepJ W b vb) (h1:a.kind=b.kind) (h2:a.n=b.n) (h3:a.s=b.s) (h4:a.l.length=b.l.length) (h5:a.k.length=b.k.length):
  Calls Tryz.prog 15 #[va,vb] W fun e w'=>e= .returned (.bool (zol a b))∧Below W.heap.size W w':=by
 obtain⟨vk,A,c,rfl,hs,hk,hl,hc⟩:=ha.open
 obtain⟨vk',A',c',rfl,hs',hk',hl',hc'⟩:=hb.open
 obtain⟨K,d,rfl,hkl,hkc⟩:=hk.open
 obtain⟨K',d',rfl,hkl',hkc'⟩:=hk'.open
 rw[←h1,←h2,←h3,←h4,←h5]
 have HSAME:Hid (zol a b=true↔a.k=b.k∧zoj a.l b.l=true):=Lib.hid (by rw[sameJ_iff];exact⟨fun h=>h.2.2.2,fun h=>⟨h1,h2,h3,h.1,h.2⟩⟩)
 have HKC:=Lib.hid hkc
 have HKC':=Lib.hid hkc'
 have HC:=Lib.hid hc
 have HC':=Lib.hid hc'
 have HQ:=Lib.hid h5
 have HPP:=Lib.hid h4
 have HIH:=Lib.hid ih
 obtain⟨s,hs1⟩: ∃s,s=a.s:=⟨_,rfl⟩
 obtain⟨kd,hk1⟩: ∃k,k=a.kind:=⟨_,rfl⟩
 obtain⟨n,hn1⟩: ∃k,k=a.n:=⟨_,rfl⟩
 obtain⟨p,hp1⟩: ∃k,k=a.l.length:=⟨_,rfl⟩
 obtain⟨q,hq1⟩: ∃k,k=a.k.length:=⟨_,rfl⟩
 rw[←hs1,←hk1,←hn1,←hp1,←hq1]
 rw[←hp1]at hl
 rw[←hq1]at hkl
 have HP:=Lib.hid hp1
 have HQ1:=Lib.hid hq1
 have b3:(s.toList==s.toList)=true:=by simp
 clear ha hb hk hk' hkc hkc' hc hc' hs hs' hs1 hk1 hn1 hp1 hq1 hl' hkl' h1 h2 h3 h4 h5 ih
 go_enter Tryz.func15,Tryz.ntmps15
 go_wp2
 have hB2:Below W.heap.size W ((W.alloc (.cells #[.int .i64 kd,.int .i64 n,.string s,.slice A p c,.slice K q d] 27)).alloc (.cells #[.int .i64 kd,.int .i64 n,.string s,.slice A' p c',.slice K' q d'] 27)):=((Below.refl _ _).alloc (Nat.le_refl _) _).alloc (by simp) _
 have hx1:((W.alloc (.cells #[.int .i64 kd,.int .i64 n,.string s,.slice A p c,.slice K q d] 27)).alloc (.cells #[.int .i64 kd,.int .i64 n,.string s,.slice A' p c',.slice K' q d'] 27)).cell? ⟨W.heap.size,3,none⟩=some (.slice A p c):=by simp
 have hx2:((W.alloc (.cells #[.int .i64 kd,.int .i64 n,.string s,.slice A p c,.slice K q d] 27)).alloc (.cells #[.int .i64 kd,.int .i64 n,.string s,.slice A' p c',.slice K' q d'] 27)).cell? ⟨W.heap.size,4,none⟩=some (.slice K q d):=by simp
 have hx3:((W.alloc (.cells #[.int .i64 kd,.int .i64 n,.string s,.slice A p c,.slice K q d] 27)).alloc (.cells #[.int .i64 kd,.int .i64 n,.string s,.slice A' p c',.slice K' q d'] 27)).cell? ⟨W.heap.size+1,3,none⟩=some (.slice A' p c'):=by simp
 have hx4:((W.alloc (.cells #[.int .i64 kd,.int .i64 n,.string s,.slice A p c,.slice K q d] 27)).alloc (.cells #[.int .i64 kd,.int .i64 n,.string s,.slice A' p c',.slice K' q d'] 27)).cell? ⟨W.heap.size+1,4,none⟩=some (.slice K' q d'):=by simp
 obtain⟨w2,hw2⟩: ∃x,x=((W.alloc (.cells #[.int .i64 kd,.int .i64 n,.string s,.slice A p c,.slice K q d] 27)).alloc (.cells #[.int .i64 kd,.int .i64 n,.string s,.slice A' p c',.slice K' q d'] 27)):=⟨_,rfl⟩
 rw[←hw2]at hB2 hx1 hx2 hx3 hx4⊢
 have HX:=Lib.hid (And.intro hx1 (And.intro hx2 (And.intro hx3 hx4)))
 have HB2:=Lib.hid hB2
 clear hw2 hx1 hx2 hx3 hx4 hB2
 go_loopw[5] (fun i wr=> ∃j:Nat,j≤q∧i= .int .i64 (j:Int)∧(∀x,x<j→a.k[x]? =b.k[x]?)∧Below w2.heap.size w2 wr) (fun i _=>q-(intOf i).toNat)
 case atStart=>exact⟨0,by omega,rfl,fun x hx=>absurd hx (Nat.not_lt_zero _),Below.refl _ _⟩
 case round=>
  obtain⟨j,hj,rfl,hall,hbel⟩:=hrel
  have HA:=Lib.hid hall
  have HBE:=Lib.hid hbel
  have y2:=(hbel.cell (p:=⟨W.heap.size,4,none⟩) (zab HX.out.2.1)).trans HX.out.2.1
  have y4:=(hbel.cell (p:=⟨W.heap.size+1,4,none⟩) (zab HX.out.2.2.2)).trans HX.out.2.2.2
  clear hall hbel
  by_cases hlt:j<q
  ·obtain⟨g,o,rfl,hg,hz,hcell⟩:=HKC.out j (by rw[←HQ1.out];exact hlt)
   obtain⟨g',o',rfl,hg',hz',hcell'⟩:=HKC'.out j (by rw[←HQ.out,←HQ1.out];exact hlt)
   have hbw:=HB2.out.trans (HBE.out.mono HB2.out.size)
   have z1:=(hbw.cell (p:=⟨g,o+j,none⟩) hg).trans hcell
   have z2:=(hbw.cell (p:=⟨g',o'+j,none⟩) hg').trans hcell'
   have HE:Hid (a.k[j]? =b.k[j]? ↔a.k[j]'(by rw[←HQ1.out];exact hlt)=b.k[j]'(by rw[←HQ.out,←HQ1.out];exact hlt)):=Lib.hid (by
    rw[List.getElem?_eq_getElem (by rw[←HQ1.out];exact hlt),List.getElem?_eq_getElem (by rw[←HQ.out,←HQ1.out];exact hlt)]
    exact⟨fun h=>Option.some.inj h,fun h=>by rw[h]⟩)
   obtain⟨t1,ht1⟩: ∃t,t=a.k[j]'(by rw[←HQ1.out];exact hlt):=⟨_,rfl⟩
   obtain⟨t2,ht2⟩: ∃t,t=b.k[j]'(by rw[←HQ.out,←HQ1.out];exact hlt):=⟨_,rfl⟩
   rw[←ht1]at z1 HE
   rw[←ht2]at z2 HE
   clear hcell hcell' hz hz' ht1 ht2 hbw
   by_cases he:t1=t2
   ·have b4:=beq_str he
    have c4:(t1.toList !=t2.toList)=false:=by rw[bne,b4];rfl
    have HEE:=Lib.hid (HE.out.2 he)
    clear he
    go_wp2
    go_quiet (fail)
    go_wp2
    go_roundw
    case rel=>exact⟨j+1,by omega,by go_num,fun x hx=>by
     rcases Nat.lt_or_ge x j with h|h
     ·exact HA.out x h
     ·obtain rfl:x=j:=by omega
      exact HEE.out,zcQ HBE.out _⟩
    case measure=>simp[intOf];omega
   ·have b4:=zig he
    have c4:(t1.toList !=t2.toList)=true:=by rw[bne,b4];rfl
    have HR:Hid (zol a b=false):=Lib.hid (by
     rw[←Bool.not_eq_true,HSAME.out]
     rintro⟨h,_⟩
     exact he (HE.out.1 (by rw[h])))
    clear he
    go_wp2
    go_quiet (fail)
    go_wp2
    go_ret
    rw[HR.out]
    exact⟨rfl,HB2.out.trans (zcQ (HBE.out.mono HB2.out.size) _)⟩
  ·obtain rfl:j=q:=by omega
   have HKK:Hid (a.k=b.k):=Lib.hid (List.ext_getElem? fun x=>by
    rcases Nat.lt_or_ge x j with h|h
    ·exact HA.out x h
    ·rw[List.getElem?_eq_none (by rw[←HQ1.out];exact h),List.getElem?_eq_none (by rw[←HQ.out,←HQ1.out];exact h)])
   have hge: ¬(j:Int)<(j:Int):=by omega
   go_wp2
   go_loopw[6] (fun i wq=> ∃m:Nat,m≤p∧i= .int .i64 (m:Int)∧(∀x (h1:x<a.l.length) (h2:x<b.l.length),x<m→zol a.l[x] b.l[x]=true)∧Below w2.heap.size w2 wq) (fun i _=>p-(intOf i).toNat)
   case atStart=>exact⟨0,by omega,rfl,fun x _ _ hx=>absurd hx (Nat.not_lt_zero _),HBE.out⟩
   case round=>
    obtain⟨m,hm,rfl,hall,hbel⟩:=hrel
    have HA2:=Lib.hid hall
    have HBE2:=Lib.hid hbel
    have y1:=(hbel.cell (p:=⟨W.heap.size,3,none⟩) (zab HX.out.1)).trans HX.out.1
    have y3:=(hbel.cell (p:=⟨W.heap.size+1,3,none⟩) (zab HX.out.2.2.1)).trans HX.out.2.2.1
    clear hall hbel y2 y4
    by_cases hlt:m<p
    ·have hm1:m<a.l.length:=by rw[←HP.out];exact hlt
     have hm2:m<b.l.length:=by rw[←HPP.out];exact hm1
     obtain⟨g,o,rfl,hg,hrep⟩:=HC.out (fun e=>by rw[e]at hm1;exact absurd hm1 (Nat.not_lt_zero _))
     obtain⟨g',o',rfl,hg',hrep'⟩:=HC'.out (fun e=>by rw[e]at hm2;exact absurd hm2 (Nat.not_lt_zero _))
     obtain⟨v1,hr1,hf1⟩:=hrep.at m hm1
     obtain⟨v2,hr2,hf2⟩:=hrep'.at m hm2
     have hbw:=HB2.out.trans (HBE2.out.mono HB2.out.size)
     have HCALL:=Lib.hid (fun(w':World) (hb:Below W.heap.size W w')=>HIH.out a.l[m] (List.getElem_mem hm1) b.l[m] v1 v2 w' (RepJ.below hb _ _ hr1) (RepJ.below hb _ _ hr2))
     obtain⟨a0,a1,a2,a3,a4,rfl,z0,z1,z2,z3,z4⟩:=hf1.below hg hbw
     obtain⟨c0,c1,c2,c3,c4,rfl,u0,u1,u2,u3,u4⟩:=hf2.below hg' hbw
     obtain⟨f,hff⟩: ∃f,f=zol a.l[m] b.l[m]:=⟨_,rfl⟩
     rw[←hff]at HCALL
     have HFF:=Lib.hid hff
     have HBW:=Lib.hid hbw
     clear hrep hrep' hr1 hr2 hf1 hf2 hbw hff
     go_wp2
     have w0:(0:Int)≤(m:Int):=by omega
     have w1:(m:Int)<(p:Int):=by omega
     go_region_held3(fun w'=>w'.cell? ⟨W.heap.size,3,none⟩=some (.slice (some ⟨g,o,none⟩) p c)∧w'.cell? ⟨W.heap.size+1,3,none⟩=some (.slice (some ⟨g',o',none⟩) p c')∧w'.cell? ⟨g,o+m*5,none⟩=some a0∧w'.cell? ⟨g,o+m*5+1,none⟩=some a1∧w'.cell? ⟨g,o+m*5+2,none⟩=some a2∧w'.cell? ⟨g,o+m*5+3,none⟩=some a3∧w'.cell? ⟨g,o+m*5+4,none⟩=some a4
       ∧w'.cell? ⟨g',o'+m*5,none⟩=some c0∧w'.cell? ⟨g',o'+m*5+1,none⟩=some c1∧w'.cell? ⟨g',o'+m*5+2,none⟩=some c2∧w'.cell? ⟨g',o'+m*5+3,none⟩=some c3∧w'.cell? ⟨g',o'+m*5+4,none⟩=some c4)
      (first|go_keep|exact⟨(hb.cell (zab y1)).trans y1,(hb.cell (zab y3)).trans y3,(hb.cell (zab z0)).trans z0,(hb.cell (zab z1)).trans z1,(hb.cell (zab z2)).trans z2,(hb.cell (zab z3)).trans z3,(hb.cell (zab z4)).trans z4,(hb.cell (zab u0)).trans u0,(hb.cell (zab u1)).trans u1,(hb.cell (zab u2)).trans u2,(hb.cell (zab u3)).trans u3,(hb.cell (zab u4)).trans u4⟩)
      (first|(go_at_call 15;refine(HCALL.out _ (HBW.out.drew)).mono ?_;rintro e w' ⟨rfl,hb⟩))
     have HB3:=Lib.hid ((HBE2.out.drew).trans (hb.mono HBE2.out.size))
     clear hb
     by_cases hf:f=true
     ·obtain rfl:=hf
      go_wp2
      go_roundw
      case rel=>exact⟨m+1,by omega,by go_num,fun x h1 h2 hx=>by
       rcases Nat.lt_or_ge x m with h|h
       ·exact HA2.out x h1 h2 h
       ·obtain rfl:x=m:=by omega
        exact HFF.out.symm,HB3.out⟩
      case measure=>simp[intOf];omega
     ·obtain rfl:f=false:=by simpa using hf
      have HR:Hid (zol a b=false):=Lib.hid (by
       rw[←Bool.not_eq_true,HSAME.out]
       rintro⟨_,h⟩
       rw[(sameLs_iff.1 h).2 m hm1 hm2]at HFF
       exact absurd HFF.out (by decide))
      go_wp2
      go_ret
      rw[HR.out]
      exact⟨rfl,HB2.out.trans (HB3.out.mono HB2.out.size)⟩
    ·obtain rfl:m=p:=by omega
     have HR:Hid (zol a b=true):=Lib.hid (by
      rw[HSAME.out]
      exact⟨HKK.out,sameLs_iff.2 ⟨HPP.out,fun x h1 h2=>HA2.out x h1 h2 (by rw[HP.out];exact h1)⟩⟩)
     have hge2: ¬(m:Int)<(m:Int):=by omega
     go_wp2
     go_ret
     rw[HR.out]
     exact⟨rfl,HB2.out.trans (HBE2.out.mono HB2.out.size)⟩
theorem zot (a:J): ∀(b:J) (va vb:Value) (W:World),RepJ W a va→RepJ W b vb→Calls Tryz.prog 15 #[va,vb] W fun e w'=>e= .returned (.bool (zol a b))∧Below W.heap.size W w':=by
 induction a using J.ind with
 |h kind n s l k ih=>
  intro b va vb W ha hb
  by_cases h:(J.mk kind n s l k).kind=b.kind∧(J.mk kind n s l k).n=b.n∧(J.mk kind n s l k).s=b.s∧(J.mk kind n s l k).l.length=b.l.length∧(J.mk kind n s l k).k.length=b.k.length
  ·obtain⟨h1,h2,h3,h4,h5⟩:=h
   exact refSame_eq (J.mk kind n s l k) ih b va vb W ha hb h1 h2 h3 h4 h5
  ·exact refSame_ne _ b va vb W ha hb h
end Go.Proofs.YtjfgmgkhinehaaaGreatDoor
