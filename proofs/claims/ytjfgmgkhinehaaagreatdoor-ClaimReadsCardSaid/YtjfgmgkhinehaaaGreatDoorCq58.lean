
import Derived.Test.YtjfgmgkhinehaaaGreatDoorCq32
import Derived.Test.YtjfgmgkhinehaaaGreatDoorCq51
import Derived.Test.YtjfgmgkhinehaaaGreatDoorCq52
import Derived.Test.YtjfgmgkhinehaaaGreatDoorCq54
import Derived.Test.YtjfgmgkhinehaaaGreatDoorCq55
import Derived.Test.YtjfgmgkhinehaaaGreatDoorCq57
set_option maxRecDepth 100000
set_option maxHeartbeats 16000000
set_option linter.all false
namespace Go.Proofs.YtjfgmgkhinehaaaGreatDoor
open Go Go.RowKit
theorem zgx: ∀{a b:List ByteArray},a.Nodup→(∀x∈a,x∈b)→a.length≤b.length
 |[],_,_,_=>Nat.zero_le _
 |x::r,b,hn,hs=>by
  have hx:=hs x List.mem_cons_self
  obtain⟨h1,h2⟩:=List.nodup_cons.1 hn
  obtain⟨u,v,rfl⟩:=List.append_of_mem hx
  have:=zgx (b:=u++v) h2 (fun y hy=>by
   have h3:=hs y (List.mem_cons_of_mem _ hy)
   rcases List.mem_append.1 h3 with h4|h4
   ·exact List.mem_append.2 (.inl h4)
   ·rcases List.mem_cons.1 h4 with rfl|h4
    ·exact absurd hy h1
    ·exact List.mem_append.2 (.inr h4))
  simp only[List.length_append,List.length_cons]at this⊢
  omega
theorem getL_hasN: ∀(k:List ByteArray) (l:List J) (n:ByteArray),k.length=l.length→(getL k l n).isSome=hasN k n
 |[],[],n,_=>rfl
 |m::r,y::t,n,h=>by
  rw[getL,zkl]
  by_cases e:m=n
  ·subst e;rw[if_pos rfl];simp
  ·rw[if_neg e,getL_hasN r t n (by simpa using h)]
   have:(m.toList==n.toList)=false:=by rw[beq_eq_false_iff_ne];exact fun h=>e (toList_inj h)
   rw[this,Bool.false_or]
def sixNames:List ByteArray:=[nCid,nExp,nIat,nIss,nJti,nScope]
theorem within_count {k:List ByteArray} (hnd:k.Nodup) (h6: ∀n∈sixNames,n∈k):k.all (hasN allNames)=true↔k.length=if hasN k nSub=true then 7 else 6:=by
 have d6:sixNames.Nodup:=by decide+kernel
 have d7:allNames.Nodup:=by decide+kernel
 have hall: ∀x,x∈allNames↔x∈sixNames∨x=nSub:=fun x=>by simp[allNames,sixNames];grind
 rw[List.all_eq_true]
 by_cases hs:hasN k nSub=true
 ·rw[if_pos hs]
  have hs':=hasN_iff.1 hs
  have h7: ∀x∈allNames,x∈k:=fun x hx=>by
   rcases(hall x).1 hx with h|rfl
   ·exact h6 x h
   ·exact hs'
  have g1:7≤k.length:=zgx d7 h7
  constructor
  ·intro h
   have:k.length≤7:=zgx hnd (fun x hx=>hasN_iff.1 (h x hx))
   omega
  ·intro h x hx
   refine hasN_iff.2 (Classical.byContradiction fun hnx=> ?_)
   have:8≤k.length:=zgx (a:=x::allNames) (List.nodup_cons.2 ⟨hnx,d7⟩) (fun y hy=>by
    rcases List.mem_cons.1 hy with rfl|hy
    ·exact hx
    ·exact h7 y hy)
   omega
 ·rw[if_neg hs]
  have hs':nSub ∉ k:=fun h=>hs (hasN_iff.2 h)
  have g1:6≤k.length:=zgx d6 h6
  constructor
  ·intro h
   have:k.length≤6:=zgx (b:=sixNames) hnd (fun x hx=>by
    rcases(hall x).1 (hasN_iff.1 (h x hx))with h|rfl
    ·exact h
    ·exact absurd hx hs')
   omega
  ·intro h x hx
   refine hasN_iff.2 (Classical.byContradiction fun hnx=> ?_)
   have:7≤k.length:=zgx (a:=x::sixNames) (List.nodup_cons.2 ⟨fun h=>hnx ((hall x).2 (.inl h)),d6⟩) (fun y hy=>by
    rcases List.mem_cons.1 hy with rfl|hy
    ·exact hx
    ·exact h6 y hy)
   omega
theorem parsed_keys {l:List Int} (h:(zar l).2.1=0):(zar l).1.kind=5→(zar l).1.k.length=(zar l).1.l.length∧(zar l).1.k.Nodup:=by
 obtain⟨h1,_⟩:=zfs l h
 obtain⟨h3,_,_⟩:=(zfq _).1 h1
 intro hk
 cases hp:(zar l).1 with
 |mk kind n s ls k=>
  rw[hp]at h3 hk
  cases h3 with
  |mk _ _ _ _ _ a1 a2 a3 a4=>
   obtain⟨b1,b2⟩:=a2 hk
   exact⟨b1,(rnL_pair k none b2).1.imp (fun {a b} h=>by rintro rfl;rw[zkt]at h;cases h)⟩
def refT (j:J):TokM:=⟨(askT j nIss).1,(askT j nJti).1,(askT j nCid).1,if(getJ j nSub).isSome=true then(askT j nSub).1 else⟨#[]⟩,zcY (askT j nScope).1,(askI j nIat).1,(askI j nExp).1⟩
def zlr (j:J):Option TokM:=
 if((askT j nCid).2=0∧(askT j nIss).2=0∧(askT j nJti).2=0∧(askI j nExp).2=0∧(askI j nIat).2=0∧(askT j nScope).2=0∧okW (zcy (askT j nScope).1)=true)∧((getJ j nSub).isSome=true→(askT j nSub).2=0∧(askT j nSub).1.size≠0)∧j.k.length=(if(getJ j nSub).isSome=true then 7 else 6)∧zcl (refT j)=true then some (refT j)else none
theorem zkw {j:J} {n:ByteArray} (h:(askT j n).2=0):(getJ j n).isSome=true:=by
 unfold askT zfj zgs at h
 cases hg:getJ j n with
 |none=>rw[hg]at h;cases h
 |some x=>rfl
theorem askI_in {j:J} {n:ByteArray} (h:(askI j n).2=0):(getJ j n).isSome=true:=by
 unfold askI zfj zgs at h
 cases hg:getJ j n with
 |none=>rw[hg]at h;cases h
 |some x=>rfl
theorem refTok_is {j:J} (hk:j.kind=5) (hl:j.k.length=j.l.length) (hnd:j.k.Nodup):(match zbs j with|some t=>if zcl t=true then some t else none|none=>none)=zlr j:=by
 have hg: ∀n,(getJ j n).isSome=hasN j.k n:=fun n=>by unfold getJ;rw[if_pos hk];exact getL_hasN _ _ _ hl
 have hS:(askS j nScope).2=0↔(askT j nScope).2=0∧okW (zcy (askT j nScope).1)=true:=by
  unfold askS
  by_cases h1:(askT j nScope).2≠0
  ·rw[if_pos h1];exact⟨(fun h=>by cases h),fun h=>absurd h.1 h1⟩
  ·rw[if_neg h1]
   by_cases h2:okW (zcy (askT j nScope).1)=true
   ·rw[if_pos h2];exact⟨fun _=>⟨Classical.byContradiction h1,h2⟩,fun _=>rfl⟩
   ·rw[if_neg h2];exact⟨(fun h=>by cases h),fun h=>absurd h.2 h2⟩
 by_cases C:(askT j nCid).2=0∧(askT j nIss).2=0∧(askT j nJti).2=0∧(askI j nExp).2=0∧(askI j nIat).2=0∧(askT j nScope).2=0∧okW (zcy (askT j nScope).1)=true
 case neg=>
  rw[show zlr j=none from if_neg (fun h=>C h.1),show zbs j=none from if_neg (fun⟨e1,e2,e3,_,e5,e6,e7,_⟩=>C ⟨e3,e1,e2,e7,e6,(hS.1 e5).1,(hS.1 e5).2⟩)]
 case pos=>
  obtain⟨c1,c2,c3,c4,c5,c6,c7⟩:=C
  have h6: ∀n∈sixNames,n∈j.k:=fun n hn=>by
   have:(getJ j n).isSome=true:=by
    simp only[sixNames,List.mem_cons,List.not_mem_nil,or_false]at hn
    rcases hn with rfl|rfl|rfl|rfl|rfl|rfl
    ·exact zkw c1
    ·exact askI_in c4
    ·exact askI_in c5
    ·exact zkw c2
    ·exact zkw c3
    ·exact zkw c6
   rw[hg]at this
   exact hasN_iff.1 this
  have hW:=within_count hnd h6
  have hSv:(askS j nScope).1=zcY (askT j nScope).1:=by
   unfold askS
   rw[if_neg (fun h=>h c6),if_pos c7]
  unfold zlr
  rw[hg]
  by_cases hs:hasN j.k nSub=true
  ·have hrT:refT j=⟨(askT j nIss).1,(askT j nJti).1,(askT j nCid).1,(askT j nSub).1,zcY (askT j nScope).1,(askI j nIat).1,(askI j nExp).1⟩:=by unfold refT;rw[hg,if_pos hs]
   rw[if_pos hs]at hW⊢
   by_cases hq:(askT j nSub).2=0∧zbh (strL (askT j nSub).1)=true
   ·have hU:askU j nSub=askT j nSub:=by
     unfold askU
     rw[if_neg (by rw[hs];decide),if_neg (fun h=>by rw[hq.2]at h;cases h.2)]
    have hz:(askT j nSub).1.size≠0:=fun h=>name_ne hq.2 (zfZ h)
    by_cases hw:j.k.all (hasN allNames)=true
    ·rw[show zbs j=some (refT j)from by
      unfold zbs
      rw[if_pos ⟨c2,c3,c1,by rw[hU];exact hq.1,hS.2 ⟨c6,c7⟩,c5,c4,hw⟩,hrT,hU,hSv]]
     show(if zcl (refT j)=true then some (refT j)else none)=_
     by_cases ht:zcl (refT j)=true
     ·rw[if_pos ht,if_pos ⟨⟨c1,c2,c3,c4,c5,c6,c7⟩,fun _=>⟨hq.1,hz⟩,hW.1 hw,ht⟩]
     ·rw[if_neg ht,if_neg (fun h=>ht h.2.2.2)]
    ·rw[show zbs j=none from if_neg (fun h=>hw h.2.2.2.2.2.2.2),if_neg (fun h=>hw (hW.2 h.2.2.1))]
   ·have hUn:(askU j nSub).2≠0:=by
     unfold askU
     rw[if_neg (by rw[hs];decide)]
     by_cases h0:(askT j nSub).2=0
     ·rw[if_pos ⟨h0,by cases h:zbh (strL (askT j nSub).1)with|true=>exact absurd ⟨h0,h⟩ hq|false=>rfl⟩];decide
     ·rw[if_neg (fun h=>h0 h.1)];exact h0
    rw[show zbs j=none from if_neg (fun h=>hUn h.2.2.2.1)]
    symm
    refine if_neg (fun h=>hq ⟨(h.2.1 hs).1,?_⟩)
    have ht:=h.2.2.2
    rw[hrT]at ht
    unfold zcl at ht
    simp only[Bool.and_eq_true]at ht
    have h1:zjp (askT j nSub).1=true:=ht.1.1.2
    unfold zjp at h1
    rw[decide_eq_false (h.2.1 hs).2,Bool.false_or]at h1
    exact h1
  ·have hrT:refT j=⟨(askT j nIss).1,(askT j nJti).1,(askT j nCid).1,⟨#[]⟩,zcY (askT j nScope).1,(askI j nIat).1,(askI j nExp).1⟩:=by unfold refT;rw[hg,if_neg hs]
   rw[if_neg hs]at hW⊢
   have hU:askU j nSub=(⟨#[]⟩,0):=by
    unfold askU
    exact if_pos (by simpa using hs)
   by_cases hw:j.k.all (hasN allNames)=true
   ·rw[show zbs j=some (refT j)from by
     unfold zbs
     rw[if_pos ⟨c2,c3,c1,by rw[hU],hS.2 ⟨c6,c7⟩,c5,c4,hw⟩,hrT,hU,hSv]]
    show(if zcl (refT j)=true then some (refT j)else none)=_
    by_cases ht:zcl (refT j)=true
    ·rw[if_pos ht,if_pos ⟨⟨c1,c2,c3,c4,c5,c6,c7⟩,fun h=>absurd h hs,hW.1 hw,ht⟩]
    ·rw[if_neg ht,if_neg (fun h=>ht h.2.2.2)]
   ·rw[show zbs j=none from if_neg (fun h=>hw h.2.2.2.2.2.2.2),if_neg (fun h=>hw (hW.2 h.2.2.1))]
theorem readTok_no {j:J} (hk:j.kind≠5):zbs j=none:=by
 unfold zbs
 refine if_neg (fun h=> ?_)
 have h1:=zkw h.1
 unfold getJ at h1
 rw[if_neg hk]at h1
 cases h1
theorem zim (t:TokM) (A B:Option Addr) (c d:Nat) (W:World) (h1:SliceN W (.slice A t.sc.length c) t.sc) (h2:SliceN W (.slice B t.sc.length d) t.sc) (hn:t.sc.length≤1000000000):
  Calls Tryz.prog 30 #[.agg #[.string t.iss,.string t.jti,.string t.cid,.string t.sub,.slice A t.sc.length c,.int .i64 t.iat,.int .i64 t.exp],.agg #[.string t.iss,.string t.jti,.string t.cid,.string t.sub,.slice B t.sc.length d,.int .i64 t.iat,.int .i64 t.exp]] W fun e w'=>e= .returned (.bool true)∧Below W.heap.size W w':=by
 obtain⟨i,j,k,s,ns,a,b⟩:=t
 dsimp only at h1 h2 hn⊢
 have hB1:=((Below.refl _ W).alloc (Nat.le_refl _) (.cells #[.string i,.string j,.string k,.string s,.slice A ns.length c,.int .i64 a,.int .i64 b] 43)).alloc (by simp) (.cells #[.string i,.string j,.string k,.string s,.slice B ns.length d,.int .i64 a,.int .i64 b] 43)
 have HS:=Lib.hid (zmy _ _ ns ns _ (h1.below hB1) (h2.below hB1) hn hn)
 rw[sameN_self]at HS
 have HB1:=Lib.hid hB1
 have e1:(i.toList==i.toList)=true:=by simp
 have e2:(j.toList==j.toList)=true:=by simp
 have e3:(k.toList==k.toList)=true:=by simp
 have e4:(s.toList==s.toList)=true:=by simp
 have e5:(a==a)=true:=by simp
 have e6:(b==b)=true:=by simp
 obtain⟨n,hnn⟩: ∃n,n=ns.length:=⟨_,rfl⟩
 rw[←hnn]at HS HB1⊢
 clear h1 h2 hB1 hn hnn
 go_enter Tryz.func30,Tryz.ntmps30
 go_wp2_with fail
 refine HS.out.mono ?_
 rintro e w2 ⟨rfl,hb⟩
 have HB2:=Lib.hid (HB1.out.trans (hb.mono HB1.out.size))
 clear hb
 go_wp2
 go_ret
 exact⟨rfl,HB2.out⟩
theorem refParse_str (s:ByteArray) (W:World) (hs:s.size≤5000):Calls Tryz.prog 66 #[.string s] W fun e w'=>
  ∃x0 x1 x2 xA xp xc xK xq xd,e= .returned (.tuple #[.agg #[.int .i64 x0,.int .i64 x1,.string x2,.slice xA xp xc,.slice xK xq xd],.int .i64 (zar (strL s)).2.1,.int .i64 (zar (strL s)).2.2])∧RepJ w' (zar (strL s)).1 (.agg #[.int .i64 x0,.int .i64 x1,.string x2,.slice xA xp xc,.slice xK xq xd])∧Below W.heap.size W w':=by
 rw[zib]
 refine(refParse_any s W (by omega)).mono ?_
 rintro e w' ⟨v,rfl,hr,hb⟩
 have hj:=RepS.toJ _ _ hr
 obtain⟨x0,x1,x2,A,p,c,K,q,d,rfl⟩:=hj.form
 exact⟨_,_,_,_,_,_,_,_,_,rfl,hj,hb⟩
theorem zby:(Tryz.prog.info? 43).map (·.size)=some 7:=by kernel_rfl
theorem zmn:(Tryz.prog.info? 43).map (·.zero)=some (some (.agg zeros7.toArray)):=by kernel_rfl
def RefRTells (W:World) (r:Option TokM) (e:Ending) (w':World):Prop:=
 (∃(t:TokM) (A:Option Addr) (c:Nat),r=some t∧e= .returned (.tuple #[.agg #[.string t.iss,.string t.jti,.string t.cid,.string t.sub,.slice A t.sc.length c,.int .i64 t.iat,.int .i64 t.exp],.bool true])∧SliceN w' (.slice A t.sc.length c) t.sc∧t.sc.length≤16∧Below W.heap.size W w')∨
 (r=none∧e= .returned (.tuple #[.agg #[.string ⟨#[]⟩,.string ⟨#[]⟩,.string ⟨#[]⟩,.string ⟨#[]⟩,.slice none 0 0,.int .i64 0,.int .i64 0],.bool false])∧Below W.heap.size W w')
theorem Tiny.text {j:J} (h:Tiny j) (n:ByteArray):(askT j n).1.size≤20000:=by
 unfold askT zfj zgs
 split
 ·rename_i x hx
  split
  ·cases h with
   |mk kind m s l k h1 h2 h3=>
    have:=h3 x (getJ_in hx)
    cases this with
    |mk _ _ s' _ _ h4 _ _=>exact h4
  ·show(0:Nat)≤_;omega
 ·show(0:Nat)≤_;omega
theorem seven (b1 b2 b3 b4 b5 b6 b7:Bool):((b1=false)∨(b1=true∧b2=false)∨(b1=true∧b2=true∧b3=false)∨(b1=true∧b2=true∧b3=true∧b4=false)∨(b1=true∧b2=true∧b3=true∧b4=true∧b5=false)∨(b1=true∧b2=true∧b3=true∧b4=true∧b5=true∧b6=false)∨(b1=true∧b2=true∧b3=true∧b4=true∧b5=true∧b6=true∧b7=false))∨(b1=true∧b2=true∧b3=true∧b4=true∧b5=true∧b6=true∧b7=true):=by
 cases b1<;>cases b2<;>cases b3<;>cases b4<;>cases b5<;>cases b6<;>cases b7<;>simp
theorem below_from {n:Nat} {W0 X Y:World} (h:Below n W0 X) (hn:n≤X.heap.size) (hb:Below X.heap.size X Y):Below n W0 Y:=h.trans (hb.mono hn)
theorem refReadC_any (s:ByteArray) (W:World) (hs:s.size≤5000):
  Calls Tryz.prog 29 #[.string s] W (RefRTells W (readT (zar (strL s)))):=by
 have hB0:=zaf W (.cells #[.string ⟨#[]⟩,.string ⟨#[]⟩,.string ⟨#[]⟩,.string ⟨#[]⟩,.slice none 0 0,.int .i64 0,.int .i64 0] 43)
 have hbr0:Blk (W.alloc (.cells #[.string ⟨#[]⟩,.string ⟨#[]⟩,.string ⟨#[]⟩,.string ⟨#[]⟩,.slice none 0 0,.int .i64 0,.int .i64 0] 43)) W.heap.size 43 zeros7:=zcX W rfl zeros7 _
 have HP:=Lib.hid (refParse_str s (W.alloc (.cells #[.string ⟨#[]⟩,.string ⟨#[]⟩,.string ⟨#[]⟩,.string ⟨#[]⟩,.slice none 0 0,.int .i64 0,.int .i64 0] 43)) hs)
 have HB0:=Lib.hid hB0
 have HBR0:=Lib.hid hbr0
 have HKY:=Lib.hid (fun h=>parsed_keys (l:=strL s) h)
 have HTY:=Lib.hid (fun h=>(znl (strL s) h).2)
 obtain⟨r,hr⟩: ∃r,r=zar (strL s):=⟨_,rfl⟩
 rw[←hr]at HP HKY HTY⊢
 obtain⟨j,no,po⟩:=r
 obtain⟨R,hR⟩: ∃R,R=readT (j,no,po):=⟨_,rfl⟩
 have HR:Hid (R=if no≠0 then none else match zbs j with|some t=>if zcl t=true then some t else none|none=>none):=Lib.hid hR
 rw[←hR]
 clear hs hr hR hB0 hbr0
 go_enter Tryz.func29,Tryz.ntmps29
 go_wp2_with fail
 (with_reducible refine HP.out.mono ?_)
 rintro e w2 ⟨x0,x1,x2,xA,xp,xc,xK,xq,xd,rfl,hrj,hb⟩
 have HRJ:=Lib.hid hrj
 have hx0:x0=j.kind:=hrj.parts.1
 have hz1:(W.alloc (.cells #[.string ⟨#[]⟩,.string ⟨#[]⟩,.string ⟨#[]⟩,.string ⟨#[]⟩,.slice none 0 0,.int .i64 0,.int .i64 0] 43)).heap.size=W.heap.size+1:=by simp
 have HB2:=Lib.hid (below_from HB0.out (by rw[hz1];exact Nat.le_succ _) hb)
 have hbr2:=HBR0.out.below hb (by rw[hz1];exact Nat.lt_succ_self _)
 have HLT2:=Lib.hid hbr2.lt
 clear hrj hb HP hz1
 dsimp only
 by_cases hno:no=0
 case neg=>
  have HRN:Hid (R=none):=Lib.hid (by rw[HR.out,if_pos hno])
  have b0:(no==0)=false:=by rw[beq_eq_false_iff_ne];exact hno
  clear hx0
  go_wp2_with(first
   |((try simp only[Exit.inBlock,Exit.then]);(with_reducible refine bodyPost_ret (v:= .tuple #[.agg #[.string ⟨#[]⟩,.string ⟨#[]⟩,.string ⟨#[]⟩,.string ⟨#[]⟩,.slice none 0 0,.int .i64 0,.int .i64 0],.bool false]) ?_ ?_ ?_);rotate_left 1;rfl;(have HB4:=HB2.out.trans (HM3.out.mono HB2.out.size);exact(.inr ⟨HRN.out,rfl,HB4.grown HG9.out HB4.size (by intro b e;injection e with e;omega)⟩));have r0:=HB9.out.cell 0;have r1:=HB9.out.cell 1;have r2:=HB9.out.cell 2;have r3:=HB9.out.cell 3;have r4:=HB9.out.cell 4;have r5:=HB9.out.cell 5;have r6:=HB9.out.cell 6;rw[results_cell_tmp rfl];go_simp)
   |(refine zaK rfl (some 4) rfl _ rfl _ zcs ?_;intro g3 wa3 hg3 hb3 hgr3;have HA3:=Lib.hid hgr3;have HG3:=Lib.hid hg3;have hbr3:=hbr2.grownN hgr3;clear hgr3 hg3;try go_frame)
   |(refine zaQ rfl none rfl _ (.tmp 4) (.tmp 30) rfl g3 0 [.int .i64 x0,.int .i64 x1,.string x2,.slice xA xp xc,.slice xK xq xd] rfl rfl _ _ hb3 (by simp[zeros5]) zaa (by intro v hv;simp at hv;rcases hv with rfl|rfl|rfl|rfl|rfl<;>rfl) ?_;intro w4 hc3 hgs3;rw[zaW _ _ (by simp[zeros5])]at hc3;have HM3:=Lib.hid (zao (Below.refl _ _) HA3.out HG3.out hgs3);have hbr4:=hbr3.grown hgs3 (by intro e;injection e with e;have:=HG3.out;have:=HLT2.out;omega);have HC3:=Lib.hid hc3;obtain⟨q0,q1,q2,q3,q4⟩:w4.cell? ⟨g3,0,none⟩=some (.int .i64 x0)∧w4.cell? ⟨g3,1,none⟩=some (.int .i64 x1)∧w4.cell? ⟨g3,2,none⟩=some (.string x2)∧w4.cell? ⟨g3,3,none⟩=some (.slice xA xp xc)∧w4.cell? ⟨g3,4,none⟩=some (.slice xK xq xd):=⟨hc3.cell 0,hc3.cell 1,hc3.cell 2,hc3.cell 3,hc3.cell 4⟩;clear hgs3 hc3 hb3 hbr3;try go_frame)
   |(refine zaQ rfl none rfl _ (.tmp 2) (.tmp 40) rfl W.heap.size 0 [.string ⟨#[]⟩,.string ⟨#[]⟩,.string ⟨#[]⟩,.string ⟨#[]⟩,.slice none 0 0,.int .i64 0,.int .i64 0] rfl rfl _ _ hbr4 (by simp[zeros7]) zby (by intro v hv;simp[zeros7]at hv;rcases hv with rfl|rfl|rfl<;>rfl) ?_;intro w9 hb9 hgr;rw[zaW _ _ (by simp[zeros7])]at hb9;have HB9:=Lib.hid hb9;have HG9:=Lib.hid hgr;clear hgr hb9;try go_frame))
 case pos=>
 subst hno
 by_cases h5:j.kind=5
 case neg=>
  have HRN:Hid (R=none):=Lib.hid (by rw[HR.out,if_neg (by simp),readTok_no h5])
  have b0:(x0==5)=false:=by rw[beq_eq_false_iff_ne,hx0];exact h5
  have b1: ¬x0=5:=by rw[hx0];exact h5
  clear hx0 h5
  go_wp2_with(first
   |((try simp only[Exit.inBlock,Exit.then]);(with_reducible refine bodyPost_ret (v:= .tuple #[.agg #[.string ⟨#[]⟩,.string ⟨#[]⟩,.string ⟨#[]⟩,.string ⟨#[]⟩,.slice none 0 0,.int .i64 0,.int .i64 0],.bool false]) ?_ ?_ ?_);rotate_left 1;rfl;(have HB4:=HB2.out.trans (HM3.out.mono HB2.out.size);exact(.inr ⟨HRN.out,rfl,HB4.grown HG9.out HB4.size (by intro b e;injection e with e;omega)⟩));have r0:=HB9.out.cell 0;have r1:=HB9.out.cell 1;have r2:=HB9.out.cell 2;have r3:=HB9.out.cell 3;have r4:=HB9.out.cell 4;have r5:=HB9.out.cell 5;have r6:=HB9.out.cell 6;rw[results_cell_tmp rfl];go_simp)
   |(refine zaK rfl (some 4) rfl _ rfl _ zcs ?_;intro g3 wa3 hg3 hb3 hgr3;have HA3:=Lib.hid hgr3;have HG3:=Lib.hid hg3;have hbr3:=hbr2.grownN hgr3;clear hgr3 hg3;try go_frame)
   |(refine zaQ rfl none rfl _ (.tmp 4) (.tmp 30) rfl g3 0 [.int .i64 x0,.int .i64 x1,.string x2,.slice xA xp xc,.slice xK xq xd] rfl rfl _ _ hb3 (by simp[zeros5]) zaa (by intro v hv;simp at hv;rcases hv with rfl|rfl|rfl|rfl|rfl<;>rfl) ?_;intro w4 hc3 hgs3;rw[zaW _ _ (by simp[zeros5])]at hc3;have HM3:=Lib.hid (zao (Below.refl _ _) HA3.out HG3.out hgs3);have hbr4:=hbr3.grown hgs3 (by intro e;injection e with e;have:=HG3.out;have:=HLT2.out;omega);have HC3:=Lib.hid hc3;obtain⟨q0,q1,q2,q3,q4⟩:w4.cell? ⟨g3,0,none⟩=some (.int .i64 x0)∧w4.cell? ⟨g3,1,none⟩=some (.int .i64 x1)∧w4.cell? ⟨g3,2,none⟩=some (.string x2)∧w4.cell? ⟨g3,3,none⟩=some (.slice xA xp xc)∧w4.cell? ⟨g3,4,none⟩=some (.slice xK xq xd):=⟨hc3.cell 0,hc3.cell 1,hc3.cell 2,hc3.cell 3,hc3.cell 4⟩;clear hgs3 hc3 hb3 hbr3;try go_frame)
   |(refine zaQ rfl none rfl _ (.tmp 2) (.tmp 40) rfl W.heap.size 0 [.string ⟨#[]⟩,.string ⟨#[]⟩,.string ⟨#[]⟩,.string ⟨#[]⟩,.slice none 0 0,.int .i64 0,.int .i64 0] rfl rfl _ _ hbr4 (by simp[zeros7]) zby (by intro v hv;simp[zeros7]at hv;rcases hv with rfl|rfl|rfl<;>rfl) ?_;intro w9 hb9 hgr;rw[zaW _ _ (by simp[zeros7])]at hb9;have HB9:=Lib.hid hb9;have HG9:=Lib.hid hgr;clear hgr hb9;try go_frame))
 case pos=>
 obtain rfl:x0=5:=by rw[hx0];exact h5
 obtain⟨hkl,hnd⟩:=HKY.out rfl h5
 have HR2:Hid (R=zlr j):=Lib.hid (by rw[HR.out,if_neg (by simp)];exact refTok_is h5 hkl hnd)
 have hty:=HTY.out rfl
 have hsc:=hty.text nScope
 have HTX:=Lib.hid (fun(X:World) (hX:Below w2.heap.size w2 X) (n:ByteArray) (hn:n.size≤9223372036854775807)=>refTextC_any j _ n X (RepJ.below hX _ _ HRJ.out) hn)
 have HIX:=Lib.hid (fun(X:World) (hX:Below w2.heap.size w2 X) (n:ByteArray) (hn:n.size≤9223372036854775807)=>refIntC_any j _ n X (RepJ.below hX _ _ HRJ.out) hn)
 have HGX:=Lib.hid (fun(X:World) (hX:Below w2.heap.size w2 X) (n:ByteArray) (hn:n.size≤9223372036854775807)=>zgK j _ n X (RepJ.below hX _ _ HRJ.out) hn)
 have HXQ:Hid (xq=j.k.length):=Lib.hid HRJ.out.parts.2.2.2.2
 obtain⟨v1,hv1⟩: ∃v,v=(askT j nCid).1:=⟨_,rfl⟩
 obtain⟨b1,hb1⟩: ∃b,b=decide ((askT j nCid).2=0):=⟨_,rfl⟩
 have H1:=Lib.hid (fun X hX=>HTX.out X hX nCid (by decide))
 rw[←hv1,←hb1]at H1
 obtain⟨v2,hv2⟩: ∃v,v=(askT j nIss).1:=⟨_,rfl⟩
 obtain⟨b2,hb2⟩: ∃b,b=decide ((askT j nIss).2=0):=⟨_,rfl⟩
 have H2:=Lib.hid (fun X hX=>HTX.out X hX nIss (by decide))
 rw[←hv2,←hb2]at H2
 obtain⟨v3,hv3⟩: ∃v,v=(askT j nJti).1:=⟨_,rfl⟩
 obtain⟨b3,hb3⟩: ∃b,b=decide ((askT j nJti).2=0):=⟨_,rfl⟩
 have H3:=Lib.hid (fun X hX=>HTX.out X hX nJti (by decide))
 rw[←hv3,←hb3]at H3
 obtain⟨v4,hv4⟩: ∃v,v=(askI j nExp).1:=⟨_,rfl⟩
 obtain⟨b4,hb4⟩: ∃b,b=decide ((askI j nExp).2=0):=⟨_,rfl⟩
 have H4:=Lib.hid (fun X hX=>HIX.out X hX nExp (by decide))
 rw[←hv4,←hb4]at H4
 obtain⟨v5,hv5⟩: ∃v,v=(askI j nIat).1:=⟨_,rfl⟩
 obtain⟨b5,hb5⟩: ∃b,b=decide ((askI j nIat).2=0):=⟨_,rfl⟩
 have H5:=Lib.hid (fun X hX=>HIX.out X hX nIat (by decide))
 rw[←hv5,←hb5]at H5
 obtain⟨v6,hv6⟩: ∃v,v=(askT j nScope).1:=⟨_,rfl⟩
 obtain⟨b6,hb6⟩: ∃b,b=decide ((askT j nScope).2=0):=⟨_,rfl⟩
 have H6:=Lib.hid (fun X hX=>HTX.out X hX nScope (by decide))
 rw[←hv6,←hb6]at H6
 obtain⟨v7,hv7⟩: ∃v,v=(askT j nSub).1:=⟨_,rfl⟩
 obtain⟨b7,hb7⟩: ∃b,b=decide ((askT j nSub).2=0):=⟨_,rfl⟩
 have H7:=Lib.hid (fun X hX=>HTX.out X hX nSub (by decide))
 rw[←hv7,←hb7]at H7
 obtain⟨th,hth⟩: ∃b,b=(getJ j nSub).isSome:=⟨_,rfl⟩
 have HTH:=Lib.hid hth
 have HGS:=Lib.hid (fun X hX=>HGX.out X hX nSub (by decide))
 rw[←hth]at HGS
 have HPS:=Lib.hid (fun(X:World)=>zlX v6 X (by rw[hv6];exact hsc))
 obtain⟨bo,hbo⟩: ∃b,b=okW (zcy v6):=⟨_,rfl⟩
 rw[←hbo]at HPS
 obtain⟨N,hN⟩: ∃N,N=zcY v6:=⟨_,rfl⟩
 rw[←hN]at HPS
 have HNE:Hid (∀x∈N,x≠⟨#[]⟩):=Lib.hid (by rw[hN];exact parseN_ne _)
 have HNF:Hid (N.length≤16):=Lib.hid (by rw[hN];exact zlz _)
 have HFIN:Hid (∀sv:ByteArray,sv=(if th=true then v7 else⟨#[]⟩)→zlr j=if(b1=true∧b2=true∧b3=true∧b4=true∧b5=true∧b6=true∧bo=true)∧(th=true→b7=true∧v7.size≠0)∧xq=(if th=true then 7 else 6)∧zcl ⟨v2,v3,v1,sv,N,v5,v4⟩=true then some ⟨v2,v3,v1,sv,N,v5,v4⟩else none):=Lib.hid (by
  intro sv hsv
  unfold zlr refT
  rw[hsv,hN,hbo,hth,HXQ.out,hb1,hb2,hb3,hb4,hb5,hb6,hb7,hv1,hv2,hv3,hv4,hv5,hv6,hv7]
  simp only[decide_eq_true_eq])
 clear hx0 h5 hkl hnd hty hsc HKY HTY HR hbo hth hN hv1 hb1 hv2 hb2 hv3 hb3 hv4 hb4 hv5 hb5 hv6 hb6 hv7 hb7
 go_wp2_with(first
  |(refine zaK rfl (some 4) rfl _ rfl _ zcs ?_;intro g3 wa3 hg3 hb3 hgr3;have HA3:=Lib.hid hgr3;have HG3:=Lib.hid hg3;have hbr3:=hbr2.grownN hgr3;clear hgr3 hg3;try go_frame)
  |(refine zaQ rfl none rfl _ (.tmp 4) (.tmp 30) rfl g3 0 [.int .i64 5,.int .i64 x1,.string x2,.slice xA xp xc,.slice xK xq xd] rfl rfl _ _ hb3 (by simp[zeros5]) zaa (by intro v hv;simp at hv;rcases hv with rfl|rfl|rfl|rfl|rfl<;>rfl) ?_;intro w4 hc3 hgs3;rw[zaW _ _ (by simp[zeros5])]at hc3;have HM3:=Lib.hid (zao (Below.refl _ _) HA3.out HG3.out hgs3);have hbr4:=hbr3.grown hgs3 (by intro e;injection e with e;have:=HG3.out;have:=HLT2.out;omega);have HC3:=Lib.hid hc3;obtain⟨q0,q1,q2,q3,q4⟩:w4.cell? ⟨g3,0,none⟩=some (.int .i64 5)∧w4.cell? ⟨g3,1,none⟩=some (.int .i64 x1)∧w4.cell? ⟨g3,2,none⟩=some (.string x2)∧w4.cell? ⟨g3,3,none⟩=some (.slice xA xp xc)∧w4.cell? ⟨g3,4,none⟩=some (.slice xK xq xd):=⟨hc3.cell 0,hc3.cell 1,hc3.cell 2,hc3.cell 3,hc3.cell 4⟩;clear hgs3 hc3 hb3 hbr3;try go_frame)
  |(go_at_call 34;fail))
 have HB4:=Lib.hid (HB2.out.trans (HM3.out.mono HB2.out.size))
 have HBR4:=Lib.hid hbr4
 have HX0:=Lib.hid (Below.refl w4.heap.size w4)
 clear hbr4
 refine(H1.out _ (HM3.out.trans (HX0.out.mono HM3.out.size))).mono ?_
 rintro e u1 ⟨rfl,hb⟩
 have HX1:=Lib.hid (HX0.out.trans (hb.mono HX0.out.size))
 have q0:=(hb.cell (zab q0)).trans q0
 have q1:=(hb.cell (zab q1)).trans q1
 have q2:=(hb.cell (zab q2)).trans q2
 have q3:=(hb.cell (zab q3)).trans q3
 have q4:=(hb.cell (zab q4)).trans q4
 clear hb
 go_wp2_with fail
 refine(H2.out _ (HM3.out.trans (HX1.out.mono HM3.out.size))).mono ?_
 rintro e u2 ⟨rfl,hb⟩
 have HX2:=Lib.hid (HX1.out.trans (hb.mono HX1.out.size))
 have q0:=(hb.cell (zab q0)).trans q0
 have q1:=(hb.cell (zab q1)).trans q1
 have q2:=(hb.cell (zab q2)).trans q2
 have q3:=(hb.cell (zab q3)).trans q3
 have q4:=(hb.cell (zab q4)).trans q4
 clear hb
 go_wp2_with fail
 refine(H3.out _ (HM3.out.trans (HX2.out.mono HM3.out.size))).mono ?_
 rintro e u3 ⟨rfl,hb⟩
 have HX3:=Lib.hid (HX2.out.trans (hb.mono HX2.out.size))
 have q0:=(hb.cell (zab q0)).trans q0
 have q1:=(hb.cell (zab q1)).trans q1
 have q2:=(hb.cell (zab q2)).trans q2
 have q3:=(hb.cell (zab q3)).trans q3
 have q4:=(hb.cell (zab q4)).trans q4
 clear hb
 go_wp2_with fail
 refine(H4.out _ (HM3.out.trans (HX3.out.mono HM3.out.size))).mono ?_
 rintro e u4 ⟨rfl,hb⟩
 have HX4:=Lib.hid (HX3.out.trans (hb.mono HX3.out.size))
 have q0:=(hb.cell (zab q0)).trans q0
 have q1:=(hb.cell (zab q1)).trans q1
 have q2:=(hb.cell (zab q2)).trans q2
 have q3:=(hb.cell (zab q3)).trans q3
 have q4:=(hb.cell (zab q4)).trans q4
 clear hb
 go_wp2_with fail
 refine(H5.out _ (HM3.out.trans (HX4.out.mono HM3.out.size))).mono ?_
 rintro e u5 ⟨rfl,hb⟩
 have HX5:=Lib.hid (HX4.out.trans (hb.mono HX4.out.size))
 have q0:=(hb.cell (zab q0)).trans q0
 have q1:=(hb.cell (zab q1)).trans q1
 have q2:=(hb.cell (zab q2)).trans q2
 have q3:=(hb.cell (zab q3)).trans q3
 have q4:=(hb.cell (zab q4)).trans q4
 clear hb
 go_wp2_with fail
 refine(H6.out _ (HM3.out.trans (HX5.out.mono HM3.out.size))).mono ?_
 rintro e u6 ⟨rfl,hb⟩
 have HX6:=Lib.hid (HX5.out.trans (hb.mono HX5.out.size))
 have q0:=(hb.cell (zab q0)).trans q0
 have q1:=(hb.cell (zab q1)).trans q1
 have q2:=(hb.cell (zab q2)).trans q2
 have q3:=(hb.cell (zab q3)).trans q3
 have q4:=(hb.cell (zab q4)).trans q4
 clear hb
 go_wp2_with fail
 refine(HPS.out _).mono ?_
 rintro e u7 ⟨v,rfl,hsl,hb⟩
 obtain⟨A,c,rfl,h8⟩:=hsl
 have HSL:Hid (SliceN u7 (.slice A N.length c) N):=Lib.hid ⟨A,c,rfl,h8⟩
 have HX7:=Lib.hid (HX6.out.trans (hb.mono HX6.out.size))
 have q0:=(hb.cell (zab q0)).trans q0
 have q1:=(hb.cell (zab q1)).trans q1
 have q2:=(hb.cell (zab q2)).trans q2
 have q3:=(hb.cell (zab q3)).trans q3
 have q4:=(hb.cell (zab q4)).trans q4
 clear hb h8 HPS
 obtain⟨n,hn⟩: ∃n,n=N.length:=⟨_,rfl⟩
 rw[←hn]at HSL⊢
 have HNN:=Lib.hid hn
 clear hn
 go_wp2_with(first
  |(refine zaK rfl (some 21) rfl _ rfl _ zmn ?_;intro g6 wa6 hg6 hb6 hgr6;have HA6:=Lib.hid hgr6;have HG6:=Lib.hid hg6;clear hgr6 hg6;try go_frame)
  |(refine zaQ rfl none rfl _ (.tmp 21) (.tmp 82) rfl g6 0 [.string v2,.string v3,.string v1,.string ⟨#[]⟩,.slice A n c,.int .i64 v5,.int .i64 v4] rfl rfl _ _ hb6 (by simp[zeros7]) zby (by intro v hv;simp at hv;rcases hv with rfl|rfl|rfl|rfl|rfl|rfl|rfl<;>rfl) ?_;intro w7 hc6 hgs6;rw[zaW _ _ (by simp[zeros7])]at hc6;have HM6:=Lib.hid (zao (Below.refl _ _) HA6.out HG6.out hgs6);have HC6:=Lib.hid hc6;have k0:=(HM6.out.cell (zab q0)).trans q0;have k1:=(HM6.out.cell (zab q1)).trans q1;have k2:=(HM6.out.cell (zab q2)).trans q2;have k3:=(HM6.out.cell (zab q3)).trans q3;have k4:=(HM6.out.cell (zab q4)).trans q4;clear hgs6 hb6 hc6 q0 q1 q2 q3 q4;try go_frame)
  |(go_at_call 14;fail))
 have HX8:=Lib.hid (HX7.out.trans (HM6.out.mono HX7.out.size))
 refine(HGS.out _ (HM3.out.trans (HX8.out.mono HM3.out.size))).mono ?_
 rintro e u8 ⟨v,rfl,hrg,hb⟩
 obtain⟨i0,i1,i2,iA,ip,ic,iK,iq,id,rfl⟩:=hrg.form
 have HX9:=Lib.hid (HX8.out.trans (hb.mono HX8.out.size))
 have HC8:=Lib.hid (HC6.out.below hb HC6.out.lt)
 have HN8:=Lib.hid (HM6.out.trans (hb.mono HM6.out.size))
 have q0:=(hb.cell (zab k0)).trans k0
 have q1:=(hb.cell (zab k1)).trans k1
 have q2:=(hb.cell (zab k2)).trans k2
 have q3:=(hb.cell (zab k3)).trans k3
 have q4:=(hb.cell (zab k4)).trans k4
 clear hb hrg HC6 k0 k1 k2 k3 k4
 dsimp only
 cases th with
 |false=>
  have HFI:=Lib.hid (HFIN.out ⟨#[]⟩ rfl)
  have HCK:=Lib.hid (fun(X:World) (hX:SliceN X (.slice A n c) N)=>by
   have:=zfV ⟨v2,v3,v1,⟨#[]⟩,N,v5,v4⟩ A c X (by show SliceN _ (.slice A N.length c) N;rw[←HNN.out];exact hX) (by show N.length≤_;have:=HNF.out;omega)
   dsimp only at this
   rewrite [←HNN.out]at this
   exact this)
  rcases seven b1 b2 b3 b4 b5 b6 bo with hbad|⟨rfl,rfl,rfl,rfl,rfl,rfl,rfl⟩
  ·rcases hbad with rfl|⟨rfl,rfl⟩|⟨rfl,rfl,rfl⟩|⟨rfl,rfl,rfl,rfl⟩|⟨rfl,rfl,rfl,rfl,rfl⟩|⟨rfl,rfl,rfl,rfl,rfl,rfl⟩|⟨rfl,rfl,rfl,rfl,rfl,rfl,rfl⟩<;>(
    have HRN:Hid (R=none):=Lib.hid (by rw[HR2.out,HFI.out];exact if_neg (fun h=>by simp at h))
    clear HFI HCK
    go_wp2_with(first
     |((try simp only[Exit.inBlock,Exit.then]);(with_reducible refine bodyPost_ret (v:= .tuple #[.agg #[.string ⟨#[]⟩,.string ⟨#[]⟩,.string ⟨#[]⟩,.string ⟨#[]⟩,.slice none 0 0,.int .i64 0,.int .i64 0],.bool false]) ?_ ?_ ?_);rotate_left 1;rfl;(have HBW:=HB4.out.trans (HXA.out.mono HB4.out.size);exact(.inr ⟨HRN.out,rfl,HBW.grown HG9.out HBW.size (by intro b e;injection e with e;omega)⟩));have r0:=HB9.out.cell 0;have r1:=HB9.out.cell 1;have r2:=HB9.out.cell 2;have r3:=HB9.out.cell 3;have r4:=HB9.out.cell 4;have r5:=HB9.out.cell 5;have r6:=HB9.out.cell 6;rw[results_cell_tmp rfl];go_simp)
     |(refine zaK rfl (some 23) rfl _ rfl _ zcs ?_;intro g8 wa8 hg8 hb8 hgr8;have HA8:=Lib.hid hgr8;have HG8:=Lib.hid hg8;clear hgr8 hg8;try go_frame)
     |(refine zaQ rfl none rfl _ (.tmp 23) (.tmp 86) rfl g8 0 [.int .i64 i0,.int .i64 i1,.string i2,.slice iA ip ic,.slice iK iq id] rfl rfl _ _ hb8 (by simp[zeros5]) zaa (by intro v hv;simp at hv;rcases hv with rfl|rfl|rfl|rfl|rfl<;>rfl) ?_;intro w8 hc8 hgs8;rw[zaW _ _ (by simp[zeros5])]at hc8;have HM8:=Lib.hid (zao (Below.refl _ _) HA8.out HG8.out hgs8);have HCA:=Lib.hid (HC8.out.below HM8.out HC8.out.lt);have HXA:=Lib.hid (HX9.out.trans (HM8.out.mono HX9.out.size));have hk:=HC3.out.below HXA.out HC3.out.lt;have k0:=hk.cell 0;have k1:=hk.cell 1;have k2:=hk.cell 2;have k3:=hk.cell 3;have k4:=hk.cell 4;have s0:=HCA.out.cell 0;have s1:=HCA.out.cell 1;have s2:=HCA.out.cell 2;have s3:=HCA.out.cell 3;have s4:=HCA.out.cell 4;have s5:=HCA.out.cell 5;have s6:=HCA.out.cell 6;have hbrA:=HBR4.out.below HXA.out HBR4.out.lt;clear hgs8 hb8 hc8 hk q0 q1 q2 q3 q4;try go_frame)
     |(refine zaQ rfl none rfl _ (.tmp 2) (.tmp 141) rfl W.heap.size 0 [.string ⟨#[]⟩,.string ⟨#[]⟩,.string ⟨#[]⟩,.string ⟨#[]⟩,.slice none 0 0,.int .i64 0,.int .i64 0] rfl rfl _ _ hbrA (by simp[zeros7]) zby (by intro v hv;simp[zeros7]at hv;rcases hv with rfl|rfl|rfl<;>rfl) ?_;intro w9 hb9 hgr;rw[zaW _ _ (by simp[zeros7])]at hb9;have HB9:=Lib.hid hb9;have HG9:=Lib.hid hgr;clear hgr hb9;try go_frame)))
  by_cases hq:xq=6
  case neg=>
   have HRN:Hid (R=none):=Lib.hid (by rw[HR2.out,HFI.out];exact if_neg (fun h=>hq h.2.2.1))
   have e0:((xq:Int)==6)=false:=by rw[beq_eq_false_iff_ne];omega
   have e1: ¬(xq:Int)=6:=by omega
   clear HFI HCK hq
   go_wp2_with(first
    |((try simp only[Exit.inBlock,Exit.then]);(with_reducible refine bodyPost_ret (v:= .tuple #[.agg #[.string ⟨#[]⟩,.string ⟨#[]⟩,.string ⟨#[]⟩,.string ⟨#[]⟩,.slice none 0 0,.int .i64 0,.int .i64 0],.bool false]) ?_ ?_ ?_);rotate_left 1;rfl;(have HBW:=HB4.out.trans (HXA.out.mono HB4.out.size);exact(.inr ⟨HRN.out,rfl,HBW.grown HG9.out HBW.size (by intro b e;injection e with e;omega)⟩));have r0:=HB9.out.cell 0;have r1:=HB9.out.cell 1;have r2:=HB9.out.cell 2;have r3:=HB9.out.cell 3;have r4:=HB9.out.cell 4;have r5:=HB9.out.cell 5;have r6:=HB9.out.cell 6;rw[results_cell_tmp rfl];go_simp)
    |(refine zaK rfl (some 23) rfl _ rfl _ zcs ?_;intro g8 wa8 hg8 hb8 hgr8;have HA8:=Lib.hid hgr8;have HG8:=Lib.hid hg8;clear hgr8 hg8;try go_frame)
    |(refine zaQ rfl none rfl _ (.tmp 23) (.tmp 86) rfl g8 0 [.int .i64 i0,.int .i64 i1,.string i2,.slice iA ip ic,.slice iK iq id] rfl rfl _ _ hb8 (by simp[zeros5]) zaa (by intro v hv;simp at hv;rcases hv with rfl|rfl|rfl|rfl|rfl<;>rfl) ?_;intro w8 hc8 hgs8;rw[zaW _ _ (by simp[zeros5])]at hc8;have HM8:=Lib.hid (zao (Below.refl _ _) HA8.out HG8.out hgs8);have HCA:=Lib.hid (HC8.out.below HM8.out HC8.out.lt);have HXA:=Lib.hid (HX9.out.trans (HM8.out.mono HX9.out.size));have hk:=HC3.out.below HXA.out HC3.out.lt;have k0:=hk.cell 0;have k1:=hk.cell 1;have k2:=hk.cell 2;have k3:=hk.cell 3;have k4:=hk.cell 4;have s0:=HCA.out.cell 0;have s1:=HCA.out.cell 1;have s2:=HCA.out.cell 2;have s3:=HCA.out.cell 3;have s4:=HCA.out.cell 4;have s5:=HCA.out.cell 5;have s6:=HCA.out.cell 6;have hbrA:=HBR4.out.below HXA.out HBR4.out.lt;clear hgs8 hb8 hc8 hk q0 q1 q2 q3 q4;try go_frame)
    |(refine zaQ rfl none rfl _ (.tmp 2) (.tmp 141) rfl W.heap.size 0 [.string ⟨#[]⟩,.string ⟨#[]⟩,.string ⟨#[]⟩,.string ⟨#[]⟩,.slice none 0 0,.int .i64 0,.int .i64 0] rfl rfl _ _ hbrA (by simp[zeros7]) zby (by intro v hv;simp[zeros7]at hv;rcases hv with rfl|rfl|rfl<;>rfl) ?_;intro w9 hb9 hgr;rw[zaW _ _ (by simp[zeros7])]at hb9;have HB9:=Lib.hid hb9;have HG9:=Lib.hid hgr;clear hgr hb9;try go_frame))
  case pos=>
  have e0:((xq:Int)==6)=true:=by rw[beq_iff_eq];omega
  have e1:(xq:Int)=6:=by omega
  obtain⟨ok,hok⟩: ∃b,b=zcl ⟨v2,v3,v1,⟨#[]⟩,N,v5,v4⟩:=⟨_,rfl⟩
  rw[←hok]at HCK HFI
  have HQ:=Lib.hid hq
  clear hok
  go_wp2_with(first
   |(refine zaK rfl (some 23) rfl _ rfl _ zcs ?_;intro g8 wa8 hg8 hb8 hgr8;have HA8:=Lib.hid hgr8;have HG8:=Lib.hid hg8;clear hgr8 hg8;try go_frame)
   |(refine zaQ rfl none rfl _ (.tmp 23) (.tmp 86) rfl g8 0 [.int .i64 i0,.int .i64 i1,.string i2,.slice iA ip ic,.slice iK iq id] rfl rfl _ _ hb8 (by simp[zeros5]) zaa (by intro v hv;simp at hv;rcases hv with rfl|rfl|rfl|rfl|rfl<;>rfl) ?_;intro w8 hc8 hgs8;rw[zaW _ _ (by simp[zeros5])]at hc8;have HM8:=Lib.hid (zao (Below.refl _ _) HA8.out HG8.out hgs8);have HCA:=Lib.hid (HC8.out.below HM8.out HC8.out.lt);have HXA:=Lib.hid (HX9.out.trans (HM8.out.mono HX9.out.size));have hk:=HC3.out.below HXA.out HC3.out.lt;have k0:=hk.cell 0;have k1:=hk.cell 1;have k2:=hk.cell 2;have k3:=hk.cell 3;have k4:=hk.cell 4;have s0:=HCA.out.cell 0;have s1:=HCA.out.cell 1;have s2:=HCA.out.cell 2;have s3:=HCA.out.cell 3;have s4:=HCA.out.cell 4;have s5:=HCA.out.cell 5;have s6:=HCA.out.cell 6;have hbrA:=HBR4.out.below HXA.out HBR4.out.lt;clear hgs8 hb8 hc8 hk q0 q1 q2 q3 q4;try go_frame)
   |(go_at_call 25;fail))
  have HSLW:=(HSL.out.below HN8.out).below HM8.out
  have HBRB:=Lib.hid hbrA
  refine(HCK.out _ HSLW).mono ?_
  rintro e wB ⟨rfl,hb⟩
  have HXB:=Lib.hid ((HXA.out).trans (hb.mono (HXA.out).size))
  have hbrB:=HBRB.out.below hb HBRB.out.lt
  have HBRC:=Lib.hid hbrB
  have HSLE:=Lib.hid (HSLW.below hb)
  have hcb:=HCA.out.below hb HCA.out.lt
  have t0:=hcb.cell 0
  have t1:=hcb.cell 1
  have t2:=hcb.cell 2
  have t3:=hcb.cell 3
  have t4:=hcb.cell 4
  have t5:=hcb.cell 5
  have t6:=hcb.cell 6
  have HBE:=Lib.hid (HB4.out.trans (HXB.out.mono HB4.out.size))
  clear hb hcb HCK HSLW
  cases ok with
  |false=>
   have HRN:Hid (R=none):=Lib.hid (by rw[HR2.out,HFI.out];exact if_neg (fun h=>absurd h.2.2.2 (by decide)))
   clear HFI
   go_wp2_with(first
    |((try simp only[Exit.inBlock,Exit.then]);(with_reducible refine bodyPost_ret (v:= .tuple #[.agg #[.string ⟨#[]⟩,.string ⟨#[]⟩,.string ⟨#[]⟩,.string ⟨#[]⟩,.slice none 0 0,.int .i64 0,.int .i64 0],.bool false]) ?_ ?_ ?_);rotate_left 1;rfl;(have HBW:=HB4.out.trans (HXB.out.mono HB4.out.size);exact(.inr ⟨HRN.out,rfl,HBW.grown HG9.out HBW.size (by intro b e;injection e with e;omega)⟩));have r0:=HB9.out.cell 0;have r1:=HB9.out.cell 1;have r2:=HB9.out.cell 2;have r3:=HB9.out.cell 3;have r4:=HB9.out.cell 4;have r5:=HB9.out.cell 5;have r6:=HB9.out.cell 6;rw[results_cell_tmp rfl];go_simp)
    |(refine zaQ rfl none rfl _ (.tmp 2) (.tmp 141) rfl W.heap.size 0 [.string ⟨#[]⟩,.string ⟨#[]⟩,.string ⟨#[]⟩,.string ⟨#[]⟩,.slice none 0 0,.int .i64 0,.int .i64 0] rfl rfl _ _ hbrB (by simp[zeros7]) zby (by intro v hv;simp[zeros7]at hv;rcases hv with rfl|rfl|rfl<;>rfl) ?_;intro w9 hb9 hgr;rw[zaW _ _ (by simp[zeros7])]at hb9;have HB9:=Lib.hid hb9;have HG9:=Lib.hid hgr;clear hgr hb9;try go_frame))
  |true=>
   have HRS:Hid (R=some ⟨v2,v3,v1,⟨#[]⟩,N,v5,v4⟩):=Lib.hid (by rw[HR2.out,HFI.out];exact if_pos ⟨⟨by trivial,by trivial,by trivial,by trivial,by trivial,by trivial,by trivial⟩,fun h=>absurd h (by decide),HQ.out,by trivial⟩)
   clear HFI
   go_wp2_with(first
    |((try simp only[Exit.inBlock,Exit.then]);(with_reducible refine bodyPost_ret (v:= .tuple #[.agg #[.string v2,.string v3,.string v1,.string ⟨#[]⟩,.slice A n c,.int .i64 v5,.int .i64 v4],.bool true]) ?_ ?_ ?_);rotate_left 1;rfl;(exact(.inl ⟨⟨v2,v3,v1,⟨#[]⟩,N,v5,v4⟩,A,c,HRS.out,by rw[HNN.out],by have:=HSLE.out.grownC HBRC.out (fun i x h hx=>HNE.out x hx (zen i x h)) HG9.out;rw[HNN.out]at this;exact this,HNF.out,HBE.out.grown HG9.out HBE.out.size (by intro b e;injection e with e;omega)⟩));have r0:=HB9.out.cell 0;have r1:=HB9.out.cell 1;have r2:=HB9.out.cell 2;have r3:=HB9.out.cell 3;have r4:=HB9.out.cell 4;have r5:=HB9.out.cell 5;have r6:=HB9.out.cell 6;rw[results_cell_tmp rfl];go_simp)
    |(refine zaQ rfl none rfl _ (.tmp 2) (.tmp 142) rfl W.heap.size 0 [.string v2,.string v3,.string v1,.string ⟨#[]⟩,.slice A n c,.int .i64 v5,.int .i64 v4] rfl rfl _ _ hbrB (by simp[zeros7]) zby (by intro v hv;simp at hv;rcases hv with rfl|rfl|rfl|rfl|rfl|rfl|rfl<;>rfl) ?_;intro w9 hb9 hgr;rw[zaW _ _ (by simp[zeros7])]at hb9;have HB9:=Lib.hid hb9;have HG9:=Lib.hid hgr;clear hgr hb9;try go_frame))
 |true=>
  go_wp2_with(first
   |(refine zaK rfl (some 23) rfl _ rfl _ zcs ?_;intro g8 wa8 hg8 hb8 hgr8;have HA8:=Lib.hid hgr8;have HG8:=Lib.hid hg8;clear hgr8 hg8;try go_frame)
   |(refine zaQ rfl none rfl _ (.tmp 23) (.tmp 86) rfl g8 0 [.int .i64 i0,.int .i64 i1,.string i2,.slice iA ip ic,.slice iK iq id] rfl rfl _ _ hb8 (by simp[zeros5]) zaa (by intro v hv;simp at hv;rcases hv with rfl|rfl|rfl|rfl|rfl<;>rfl) ?_;intro w8 hc8 hgs8;rw[zaW _ _ (by simp[zeros5])]at hc8;have HM8:=Lib.hid (zao (Below.refl _ _) HA8.out HG8.out hgs8);have HCA:=Lib.hid (HC8.out.below HM8.out HC8.out.lt);have HXA:=Lib.hid (HX9.out.trans (HM8.out.mono HX9.out.size));have hk:=HC3.out.below HXA.out HC3.out.lt;have k0:=hk.cell 0;have k1:=hk.cell 1;have k2:=hk.cell 2;have k3:=hk.cell 3;have k4:=hk.cell 4;have s0:=HCA.out.cell 0;have s1:=HCA.out.cell 1;have s2:=HCA.out.cell 2;have s3:=HCA.out.cell 3;have s4:=HCA.out.cell 4;have s5:=HCA.out.cell 5;have s6:=HCA.out.cell 6;have hbrA:=HBR4.out.below HXA.out HBR4.out.lt;clear hgs8 hb8 hc8 hk q0 q1 q2 q3 q4;try go_frame)
   |(go_at_call 34;fail))
  refine(H7.out _ (HM3.out.trans (HXA.out.mono HM3.out.size))).mono ?_
  rintro e uT ⟨rfl,hb⟩
  have HXT:=Lib.hid (HXA.out.trans (hb.mono HXA.out.size))
  have HNT:=Lib.hid ((HN8.out.trans (HM8.out.mono HN8.out.size)).trans (hb.mono (HN8.out.trans (HM8.out.mono HN8.out.size)).size))
  have hc6T:=HCA.out.below hb HCA.out.lt
  have hbrT:=hbrA.below hb hbrA.lt
  have HFJ:=Lib.hid (HFIN.out v7 rfl)
  clear hb k0 k1 k2 k3 k4 s0 s1 s2 s3 s4 s5 s6 hbrA
  cases b7 with
  |false=>
   have HRN:Hid (R=none):=Lib.hid (by rw[HR2.out,HFJ.out];exact if_neg (fun h=>absurd (h.2.1 (by trivial)).1 (by decide)))
   clear HFJ
   go_wp2_with(first
    |((try simp only[Exit.inBlock,Exit.then]);(with_reducible refine bodyPost_ret (v:= .tuple #[.agg #[.string ⟨#[]⟩,.string ⟨#[]⟩,.string ⟨#[]⟩,.string ⟨#[]⟩,.slice none 0 0,.int .i64 0,.int .i64 0],.bool false]) ?_ ?_ ?_);rotate_left 1;rfl;(have HBW:=HB4.out.trans (HXT.out.mono HB4.out.size);exact(.inr ⟨HRN.out,rfl,HBW.grown HG9.out HBW.size (by intro b e;injection e with e;omega)⟩));have r0:=HB9.out.cell 0;have r1:=HB9.out.cell 1;have r2:=HB9.out.cell 2;have r3:=HB9.out.cell 3;have r4:=HB9.out.cell 4;have r5:=HB9.out.cell 5;have r6:=HB9.out.cell 6;rw[results_cell_tmp rfl];go_simp)
    |(refine zaQ rfl none rfl _ (.tmp 2) (.tmp 100) rfl W.heap.size 0 [.string ⟨#[]⟩,.string ⟨#[]⟩,.string ⟨#[]⟩,.string ⟨#[]⟩,.slice none 0 0,.int .i64 0,.int .i64 0] rfl rfl _ _ hbrT (by simp[zeros7]) zby (by intro v hv;simp[zeros7]at hv;rcases hv with rfl|rfl|rfl<;>rfl) ?_;intro w9 hb9 hgr;rw[zaW _ _ (by simp[zeros7])]at hb9;have HB9:=Lib.hid hb9;have HG9:=Lib.hid hgr;clear hgr hb9;try go_frame))
  |true=>
   by_cases hz:v7.size=0
   ·have HRN:Hid (R=none):=Lib.hid (by rw[HR2.out,HFJ.out];exact if_neg (fun h=>(h.2.1 (by trivial)).2 hz))
    obtain rfl:=zfZ hz
    clear HFJ hz
    go_wp2_with(first
     |((try simp only[Exit.inBlock,Exit.then]);(with_reducible refine bodyPost_ret (v:= .tuple #[.agg #[.string ⟨#[]⟩,.string ⟨#[]⟩,.string ⟨#[]⟩,.string ⟨#[]⟩,.slice none 0 0,.int .i64 0,.int .i64 0],.bool false]) ?_ ?_ ?_);rotate_left 1;rfl;(have HBW:=HB4.out.trans (HXT.out.mono HB4.out.size);exact(.inr ⟨HRN.out,rfl,HBW.grown HG9.out HBW.size (by intro b e;injection e with e;omega)⟩));have r0:=HB9.out.cell 0;have r1:=HB9.out.cell 1;have r2:=HB9.out.cell 2;have r3:=HB9.out.cell 3;have r4:=HB9.out.cell 4;have r5:=HB9.out.cell 5;have r6:=HB9.out.cell 6;rw[results_cell_tmp rfl];go_simp)
     |(refine zaQ rfl none rfl _ (.tmp 2) (.tmp 100) rfl W.heap.size 0 [.string ⟨#[]⟩,.string ⟨#[]⟩,.string ⟨#[]⟩,.string ⟨#[]⟩,.slice none 0 0,.int .i64 0,.int .i64 0] rfl rfl _ _ hbrT (by simp[zeros7]) zby (by intro v hv;simp[zeros7]at hv;rcases hv with rfl|rfl|rfl<;>rfl) ?_;intro w9 hb9 hgr;rw[zaW _ _ (by simp[zeros7])]at hb9;have HB9:=Lib.hid hb9;have HG9:=Lib.hid hgr;clear hgr hb9;try go_frame))
   ·have hne:=zco hz
    have hne3:=zbx hz
    have HZ7:=Lib.hid hz
    clear HFJ hz
    have HFI:=Lib.hid (HFIN.out v7 rfl)
    have HCK:=Lib.hid (fun(X:World) (hX:SliceN X (.slice A n c) N)=>by
     have:=zfV ⟨v2,v3,v1,v7,N,v5,v4⟩ A c X (by show SliceN _ (.slice A N.length c) N;rw[←HNN.out];exact hX) (by show N.length≤_;have:=HNF.out;omega)
     dsimp only at this
     rewrite [←HNN.out]at this
     exact this)
    rcases seven b1 b2 b3 b4 b5 b6 bo with hbad|⟨rfl,rfl,rfl,rfl,rfl,rfl,rfl⟩
    ·rcases hbad with rfl|⟨rfl,rfl⟩|⟨rfl,rfl,rfl⟩|⟨rfl,rfl,rfl,rfl⟩|⟨rfl,rfl,rfl,rfl,rfl⟩|⟨rfl,rfl,rfl,rfl,rfl,rfl⟩|⟨rfl,rfl,rfl,rfl,rfl,rfl,rfl⟩<;>(
      have HRN:Hid (R=none):=Lib.hid (by rw[HR2.out,HFI.out];exact if_neg (fun h=>by simp at h))
      clear HFI HCK
      go_wp2_with(first
       |((try simp only[Exit.inBlock,Exit.then]);(with_reducible refine bodyPost_ret (v:= .tuple #[.agg #[.string ⟨#[]⟩,.string ⟨#[]⟩,.string ⟨#[]⟩,.string ⟨#[]⟩,.slice none 0 0,.int .i64 0,.int .i64 0],.bool false]) ?_ ?_ ?_);rotate_left 1;rfl;(have HBW:=HB4.out.trans (HXS.out.mono HB4.out.size);exact(.inr ⟨HRN.out,rfl,HBW.grown HG9.out HBW.size (by intro b e;injection e with e;omega)⟩));have r0:=HB9.out.cell 0;have r1:=HB9.out.cell 1;have r2:=HB9.out.cell 2;have r3:=HB9.out.cell 3;have r4:=HB9.out.cell 4;have r5:=HB9.out.cell 5;have r6:=HB9.out.cell 6;rw[results_cell_tmp rfl];go_simp)
       |(refine zbn rfl none rfl _ (.tmp 102) (.tmp 101) rfl g6 3 (.string v7) rfl rfl rfl _ _ hc6T (by simp) (by kernel_rfl) ?_;intro wS hcS hgS;have HCS:Hid (Blk wS g6 43 [.string v2,.string v3,.string v1,.string v7,.slice A n c,.int .i64 v5,.int .i64 v4]):=Lib.hid hcS;have HNS:=Lib.hid (HNT.out.grown hgS HNT.out.size (by intro b e;injection e with e;have:=HG6.out;omega));have HXS:=Lib.hid (HX7.out.trans (HNS.out.mono HX7.out.size));have hk:=HC3.out.below HXS.out HC3.out.lt;have k0:=hk.cell 0;have k1:=hk.cell 1;have k2:=hk.cell 2;have k3:=hk.cell 3;have k4:=hk.cell 4;have s0:=HCS.out.cell 0;have s1:=HCS.out.cell 1;have s2:=HCS.out.cell 2;have s3:=HCS.out.cell 3;have s4:=HCS.out.cell 4;have s5:=HCS.out.cell 5;have s6:=HCS.out.cell 6;have hbrS:=HBR4.out.below HXS.out HBR4.out.lt;clear hcS hgS hc6T hk;try go_frame)
       |(refine zaQ rfl none rfl _ (.tmp 2) (.tmp 141) rfl W.heap.size 0 [.string ⟨#[]⟩,.string ⟨#[]⟩,.string ⟨#[]⟩,.string ⟨#[]⟩,.slice none 0 0,.int .i64 0,.int .i64 0] rfl rfl _ _ hbrS (by simp[zeros7]) zby (by intro v hv;simp[zeros7]at hv;rcases hv with rfl|rfl|rfl<;>rfl) ?_;intro w9 hb9 hgr;rw[zaW _ _ (by simp[zeros7])]at hb9;have HB9:=Lib.hid hb9;have HG9:=Lib.hid hgr;clear hgr hb9;try go_frame)))
    by_cases hq:xq=7
    case neg=>
     have HRN:Hid (R=none):=Lib.hid (by rw[HR2.out,HFI.out];exact if_neg (fun h=>hq h.2.2.1))
     have e0:((xq:Int)==7)=false:=by rw[beq_eq_false_iff_ne];omega
     have e1: ¬(xq:Int)=7:=by omega
     clear HFI HCK hq
     go_wp2_with(first
      |((try simp only[Exit.inBlock,Exit.then]);(with_reducible refine bodyPost_ret (v:= .tuple #[.agg #[.string ⟨#[]⟩,.string ⟨#[]⟩,.string ⟨#[]⟩,.string ⟨#[]⟩,.slice none 0 0,.int .i64 0,.int .i64 0],.bool false]) ?_ ?_ ?_);rotate_left 1;rfl;(have HBW:=HB4.out.trans (HXS.out.mono HB4.out.size);exact(.inr ⟨HRN.out,rfl,HBW.grown HG9.out HBW.size (by intro b e;injection e with e;omega)⟩));have r0:=HB9.out.cell 0;have r1:=HB9.out.cell 1;have r2:=HB9.out.cell 2;have r3:=HB9.out.cell 3;have r4:=HB9.out.cell 4;have r5:=HB9.out.cell 5;have r6:=HB9.out.cell 6;rw[results_cell_tmp rfl];go_simp)
      |(refine zbn rfl none rfl _ (.tmp 102) (.tmp 101) rfl g6 3 (.string v7) rfl rfl rfl _ _ hc6T (by simp) (by kernel_rfl) ?_;intro wS hcS hgS;have HCS:Hid (Blk wS g6 43 [.string v2,.string v3,.string v1,.string v7,.slice A n c,.int .i64 v5,.int .i64 v4]):=Lib.hid hcS;have HNS:=Lib.hid (HNT.out.grown hgS HNT.out.size (by intro b e;injection e with e;have:=HG6.out;omega));have HXS:=Lib.hid (HX7.out.trans (HNS.out.mono HX7.out.size));have hk:=HC3.out.below HXS.out HC3.out.lt;have k0:=hk.cell 0;have k1:=hk.cell 1;have k2:=hk.cell 2;have k3:=hk.cell 3;have k4:=hk.cell 4;have s0:=HCS.out.cell 0;have s1:=HCS.out.cell 1;have s2:=HCS.out.cell 2;have s3:=HCS.out.cell 3;have s4:=HCS.out.cell 4;have s5:=HCS.out.cell 5;have s6:=HCS.out.cell 6;have hbrS:=HBR4.out.below HXS.out HBR4.out.lt;clear hcS hgS hc6T hk;try go_frame)
      |(refine zaQ rfl none rfl _ (.tmp 2) (.tmp 141) rfl W.heap.size 0 [.string ⟨#[]⟩,.string ⟨#[]⟩,.string ⟨#[]⟩,.string ⟨#[]⟩,.slice none 0 0,.int .i64 0,.int .i64 0] rfl rfl _ _ hbrS (by simp[zeros7]) zby (by intro v hv;simp[zeros7]at hv;rcases hv with rfl|rfl|rfl<;>rfl) ?_;intro w9 hb9 hgr;rw[zaW _ _ (by simp[zeros7])]at hb9;have HB9:=Lib.hid hb9;have HG9:=Lib.hid hgr;clear hgr hb9;try go_frame))
    case pos=>
    have e0:((xq:Int)==7)=true:=by rw[beq_iff_eq];omega
    have e1:(xq:Int)=7:=by omega
    obtain⟨ok,hok⟩: ∃b,b=zcl ⟨v2,v3,v1,v7,N,v5,v4⟩:=⟨_,rfl⟩
    rw[←hok]at HCK HFI
    have HQ:=Lib.hid hq
    clear hok
    go_wp2_with(first
     |(refine zbn rfl none rfl _ (.tmp 102) (.tmp 101) rfl g6 3 (.string v7) rfl rfl rfl _ _ hc6T (by simp) (by kernel_rfl) ?_;intro wS hcS hgS;have HCS:Hid (Blk wS g6 43 [.string v2,.string v3,.string v1,.string v7,.slice A n c,.int .i64 v5,.int .i64 v4]):=Lib.hid hcS;have HNS:=Lib.hid (HNT.out.grown hgS HNT.out.size (by intro b e;injection e with e;have:=HG6.out;omega));have HXS:=Lib.hid (HX7.out.trans (HNS.out.mono HX7.out.size));have hk:=HC3.out.below HXS.out HC3.out.lt;have k0:=hk.cell 0;have k1:=hk.cell 1;have k2:=hk.cell 2;have k3:=hk.cell 3;have k4:=hk.cell 4;have s0:=HCS.out.cell 0;have s1:=HCS.out.cell 1;have s2:=HCS.out.cell 2;have s3:=HCS.out.cell 3;have s4:=HCS.out.cell 4;have s5:=HCS.out.cell 5;have s6:=HCS.out.cell 6;have hbrS:=HBR4.out.below HXS.out HBR4.out.lt;clear hcS hgS hc6T hk;try go_frame)
     |(go_at_call 25;fail))
    have HSLW:=HSL.out.below HNS.out
    have HBRB:=Lib.hid hbrS
    refine(HCK.out _ HSLW).mono ?_
    rintro e wB ⟨rfl,hb⟩
    have HXB:=Lib.hid ((HXS.out).trans (hb.mono (HXS.out).size))
    have hbrB:=HBRB.out.below hb HBRB.out.lt
    have HBRC:=Lib.hid hbrB
    have HSLE:=Lib.hid (HSLW.below hb)
    have hcb:=HCS.out.below hb HCS.out.lt
    have t0:=hcb.cell 0
    have t1:=hcb.cell 1
    have t2:=hcb.cell 2
    have t3:=hcb.cell 3
    have t4:=hcb.cell 4
    have t5:=hcb.cell 5
    have t6:=hcb.cell 6
    have HBE:=Lib.hid (HB4.out.trans (HXB.out.mono HB4.out.size))
    clear hb hcb HCK HSLW
    cases ok with
    |false=>
     have HRN:Hid (R=none):=Lib.hid (by rw[HR2.out,HFI.out];exact if_neg (fun h=>absurd h.2.2.2 (by decide)))
     clear HFI
     go_wp2_with(first
      |((try simp only[Exit.inBlock,Exit.then]);(with_reducible refine bodyPost_ret (v:= .tuple #[.agg #[.string ⟨#[]⟩,.string ⟨#[]⟩,.string ⟨#[]⟩,.string ⟨#[]⟩,.slice none 0 0,.int .i64 0,.int .i64 0],.bool false]) ?_ ?_ ?_);rotate_left 1;rfl;(have HBW:=HB4.out.trans (HXB.out.mono HB4.out.size);exact(.inr ⟨HRN.out,rfl,HBW.grown HG9.out HBW.size (by intro b e;injection e with e;omega)⟩));have r0:=HB9.out.cell 0;have r1:=HB9.out.cell 1;have r2:=HB9.out.cell 2;have r3:=HB9.out.cell 3;have r4:=HB9.out.cell 4;have r5:=HB9.out.cell 5;have r6:=HB9.out.cell 6;rw[results_cell_tmp rfl];go_simp)
      |(refine zaQ rfl none rfl _ (.tmp 2) (.tmp 141) rfl W.heap.size 0 [.string ⟨#[]⟩,.string ⟨#[]⟩,.string ⟨#[]⟩,.string ⟨#[]⟩,.slice none 0 0,.int .i64 0,.int .i64 0] rfl rfl _ _ hbrB (by simp[zeros7]) zby (by intro v hv;simp[zeros7]at hv;rcases hv with rfl|rfl|rfl<;>rfl) ?_;intro w9 hb9 hgr;rw[zaW _ _ (by simp[zeros7])]at hb9;have HB9:=Lib.hid hb9;have HG9:=Lib.hid hgr;clear hgr hb9;try go_frame))
    |true=>
     have HRS:Hid (R=some ⟨v2,v3,v1,v7,N,v5,v4⟩):=Lib.hid (by rw[HR2.out,HFI.out];exact if_pos ⟨⟨by trivial,by trivial,by trivial,by trivial,by trivial,by trivial,by trivial⟩,fun _=>⟨by trivial,HZ7.out⟩,HQ.out,by trivial⟩)
     clear HFI
     go_wp2_with(first
      |((try simp only[Exit.inBlock,Exit.then]);(with_reducible refine bodyPost_ret (v:= .tuple #[.agg #[.string v2,.string v3,.string v1,.string v7,.slice A n c,.int .i64 v5,.int .i64 v4],.bool true]) ?_ ?_ ?_);rotate_left 1;rfl;(exact(.inl ⟨⟨v2,v3,v1,v7,N,v5,v4⟩,A,c,HRS.out,by rw[HNN.out],by have:=HSLE.out.grownC HBRC.out (fun i x h hx=>HNE.out x hx (zen i x h)) HG9.out;rw[HNN.out]at this;exact this,HNF.out,HBE.out.grown HG9.out HBE.out.size (by intro b e;injection e with e;omega)⟩));have r0:=HB9.out.cell 0;have r1:=HB9.out.cell 1;have r2:=HB9.out.cell 2;have r3:=HB9.out.cell 3;have r4:=HB9.out.cell 4;have r5:=HB9.out.cell 5;have r6:=HB9.out.cell 6;rw[results_cell_tmp rfl];go_simp)
      |(refine zaQ rfl none rfl _ (.tmp 2) (.tmp 142) rfl W.heap.size 0 [.string v2,.string v3,.string v1,.string v7,.slice A n c,.int .i64 v5,.int .i64 v4] rfl rfl _ _ hbrB (by simp[zeros7]) zby (by intro v hv;simp at hv;rcases hv with rfl|rfl|rfl|rfl|rfl|rfl|rfl<;>rfl) ?_;intro w9 hb9 hgr;rw[zaW _ _ (by simp[zeros7])]at hb9;have HB9:=Lib.hid hb9;have HG9:=Lib.hid hgr;clear hgr hb9;try go_frame))
theorem lawReads_any (s:ByteArray) (W:World) (hA:Ask9 W):
  Calls Tryz.prog 5 #[.string s] W fun e w'=>e= .returned (.bool true)∧Below W.heap.size W w':=by
 have HAL:=Lib.hid (zmi W hA)
 have HA:=Lib.hid hA
 clear hA
 by_cases h5:s.size≤5000
 case neg=>
  have hI:(5000:Int)<(s.size:Int):=by omega
  clear h5
  go_enter Tryz.func5,Tryz.ntmps5
  go_wp2_with fail
  refine HAL.out.mono ?_
  rintro e w1 ⟨rfl,hb⟩
  have HB1:=Lib.hid hb
  clear hb
  go_wp2
  go_ret
  exact⟨rfl,HB1.out⟩
 case pos=>
 have hI: ¬(5000:Int)<(s.size:Int):=by omega
 have HRD:=Lib.hid (fun(X:World) (h:Ask9 X)=>zfd s X h h5)
 have HRR:=Lib.hid (fun(X:World)=>refReadC_any s X h5)
 obtain⟨R,hR⟩: ∃R,R=readT (zar (strL s)):=⟨_,rfl⟩
 rw[←hR]at HRD HRR
 clear hR h5
 go_enter Tryz.func5,Tryz.ntmps5
 go_wp2_with fail
 refine HAL.out.mono ?_
 rintro e w1 ⟨rfl,hb⟩
 have HB1:=Lib.hid hb
 clear hb
 go_wp2_with fail
 refine(HRD.out _ (HA.out.below HB1.out)).mono ?_
 rintro e w2 (⟨t,A,c,rfl,rfl,hsl,hne,hb⟩|⟨rfl,d,x,rfl,hce,hb⟩)
 ·have HB2:=Lib.hid (HB1.out.trans (hb.mono HB1.out.size))
  have HSL:=Lib.hid hsl
  have HSM:=Lib.hid (fun(X:World) (A2:Option Addr) (c2:Nat) (h1:SliceN X (.slice A t.sc.length c) t.sc) (h2:SliceN X (.slice A2 t.sc.length c2) t.sc) (hl:t.sc.length≤16)=>zim t A A2 c c2 X h1 h2 (by omega))
  obtain⟨ti,tj,td,ts,tsc,ta,tb⟩:=t
  dsimp only at HSL HSM⊢
  obtain⟨tn,htn⟩: ∃n,n=tsc.length:=⟨_,rfl⟩
  rw[←htn]at HSL HSM⊢
  have HTN:=Lib.hid htn
  clear hb hsl hne htn
  go_wp2_with(first
   |(refine zaK rfl (some 3) rfl _ rfl _ zbv ?_;intro g1 wa1 hg1 hb1 hgr1;have HA1:=Lib.hid hgr1;have HG1:=Lib.hid hg1;clear hgr1 hg1;try go_frame)
   |(refine zaQ rfl none rfl _ (.tmp 3) (.tmp 15) rfl g1 0 [.string ti,.string tj,.string td,.string ts,.slice A tn c,.int .i64 ta,.int .i64 tb] rfl rfl _ _ hb1 (by simp[zeros7]) zdQ (by intro v hv;simp at hv;rcases hv with rfl|rfl|rfl|rfl|rfl|rfl|rfl<;>rfl) ?_;intro ws1 hc1 hgs1;rw[zaW _ _ (by simp[zeros7])]at hc1;have HM1:=Lib.hid (zao (Below.refl _ _) HA1.out HG1.out hgs1);have HC1:=Lib.hid hc1;clear hgs1 hb1 hc1;try go_frame)
   |(go_at_call 29;fail))
  have HB3:=Lib.hid (HB2.out.trans (HM1.out.mono HB2.out.size))
  refine(HRR.out _).mono ?_
  rintro e w3 (⟨t',A2,c2,ht,rfl,hsl2,hl,hb⟩|⟨ht, -, -⟩)
  case inr=>cases ht
  injection ht with ht
  subst ht
  dsimp only at hsl2 hl⊢
  rw[←HTN.out]at hsl2 hl⊢
  have HB4:=Lib.hid (HB3.out.trans (hb.mono HB3.out.size))
  have HM13:=Lib.hid (HM1.out.trans (hb.mono HM1.out.size))
  have HC13:=Lib.hid (HC1.out.below hb HC1.out.lt)
  have HS2:=Lib.hid hsl2
  have HL:=Lib.hid hl
  clear hb hsl2 hl HTN
  go_wp2_with(first
   |(refine zaK rfl (some 5) rfl _ rfl _ zmn ?_;intro g5 wa5 hg5 hb5 hgr5;have HA5:=Lib.hid hgr5;have HG5:=Lib.hid hg5;clear hgr5 hg5;try go_frame)
   |(refine zaQ rfl none rfl _ (.tmp 5) (.tmp 20) rfl g5 0 [.string ti,.string tj,.string td,.string ts,.slice A2 tn c2,.int .i64 ta,.int .i64 tb] rfl rfl _ _ hb5 (by simp[zeros7]) zby (by intro v hv;simp at hv;rcases hv with rfl|rfl|rfl|rfl|rfl|rfl|rfl<;>rfl) ?_;intro ws5 hc5 hgs5;rw[zaW _ _ (by simp[zeros7])]at hc5;have HM5:=Lib.hid (zao (Below.refl _ _) HA5.out HG5.out hgs5);have HC5:=Lib.hid hc5;have hq:=HC13.out.below HM5.out HC13.out.lt;have p0:=hq.cell 0;have p1:=hq.cell 1;have p2:=hq.cell 2;have p3:=hq.cell 3;have p4:=hq.cell 4;have p5:=hq.cell 5;have p6:=hq.cell 6;have q0:=HC5.out.cell 0;have q1:=HC5.out.cell 1;have q2:=HC5.out.cell 2;have q3:=HC5.out.cell 3;have q4:=HC5.out.cell 4;have q5:=HC5.out.cell 5;have q6:=HC5.out.cell 6;clear hq;clear hgs5 hb5 hc5;try go_frame)
   |(go_at_call 30;fail))
  refine(HSM.out _ A2 c2 (HSL.out.below (HM13.out.trans (HM5.out.mono HM13.out.size))) (HS2.out.below HM5.out) HL.out).mono ?_
  rintro e w6 ⟨rfl,hb⟩
  have HB5:=HB4.out.trans (HM5.out.mono HB4.out.size)
  have HB6:=Lib.hid (HB5.trans (hb.mono HB5.size))
  clear hb HB5
  go_wp2
  go_ret
  exact⟨rfl,HB6.out⟩
 ·have HB2:=Lib.hid (HB1.out.trans (hb.mono HB1.out.size))
  have HCE:=Lib.hid hce
  clear hb hce
  go_wp2_with(first
   |(refine zaK rfl (some 3) rfl _ rfl _ zbv ?_;intro g1 wa1 hg1 hb1 hgr1;have HA1:=Lib.hid hgr1;have HG1:=Lib.hid hg1;clear hgr1 hg1;try go_frame)
   |(refine zaQ rfl none rfl _ (.tmp 3) (.tmp 15) rfl g1 0 [.string ⟨#[]⟩,.string ⟨#[]⟩,.string ⟨#[]⟩,.string ⟨#[]⟩,.slice none 0 0,.int .i64 0,.int .i64 0] rfl rfl _ _ hb1 (by simp[zeros7]) zdQ (by intro v hv;simp[zeros7]at hv;rcases hv with rfl|rfl|rfl<;>rfl) ?_;intro ws1 hc1 hgs1;rw[zaW _ _ (by simp[zeros7])]at hc1;have HM1:=Lib.hid (zao (Below.refl _ _) HA1.out HG1.out hgs1);have HC1:=Lib.hid hc1;clear hgs1 hb1 hc1;try go_frame)
   |(go_at_call 29;fail))
  have HB3:=Lib.hid (HB2.out.trans (HM1.out.mono HB2.out.size))
  refine(HRR.out _).mono ?_
  rintro e w3 (⟨t',A2,c2,ht, -⟩|⟨-,rfl,hb⟩)
  case inl=>cases ht
  have HB4:=Lib.hid (HB3.out.trans (hb.mono HB3.out.size))
  have HM13:=Lib.hid (HM1.out.trans (hb.mono HM1.out.size))
  have HC13:=Lib.hid (HC1.out.below hb HC1.out.lt)
  clear hb
  go_wp2_with(first
   |(refine zaK rfl (some 5) rfl _ rfl _ zmn ?_;intro g5 wa5 hg5 hb5 hgr5;have HA5:=Lib.hid hgr5;have HG5:=Lib.hid hg5;clear hgr5 hg5;try go_frame)
   |(refine zaQ rfl none rfl _ (.tmp 5) (.tmp 20) rfl g5 0 [.string ⟨#[]⟩,.string ⟨#[]⟩,.string ⟨#[]⟩,.string ⟨#[]⟩,.slice none 0 0,.int .i64 0,.int .i64 0] rfl rfl _ _ hb5 (by simp[zeros7]) zby (by intro v hv;simp[zeros7]at hv;rcases hv with rfl|rfl|rfl<;>rfl) ?_;intro ws5 hc5 hgs5;rw[zaW _ _ (by simp[zeros7])]at hc5;have HM5:=Lib.hid (zao (Below.refl _ _) HA5.out HG5.out hgs5);have HC5:=Lib.hid hc5;clear hgs5 hb5 hc5;try go_frame)
   |(go_at_call 26;fail))
  have HB5:=Lib.hid (HB4.out.trans (HM5.out.mono HB4.out.size))
  refine(znw d x _ ((HCE.out.below HM13.out).below HM5.out) (HA.out.below HB5.out).ask.tab).mono ?_
  rintro e w6 ⟨rfl,hb⟩
  have HB6:=Lib.hid (HB5.out.trans (hb.mono HB5.out.size))
  have hq:=(HC13.out.below HM5.out HC13.out.lt).below hb (HC13.out.below HM5.out HC13.out.lt).lt
  have hr:=HC5.out.below hb HC5.out.lt
  have p0:=hq.cell 0
  have p1:=hq.cell 1
  have p2:=hq.cell 2
  have p3:=hq.cell 3
  have p4:=hq.cell 4
  have p5:=hq.cell 5
  have p6:=hq.cell 6
  have q0:=hr.cell 0
  have q1:=hr.cell 1
  have q2:=hr.cell 2
  have q3:=hr.cell 3
  have q4:=hr.cell 4
  have q5:=hr.cell 5
  have q6:=hr.cell 6
  clear hb hq hr
  have HSM:=Lib.hid (zim zeroTok none none 0 0 w6 (SliceN.nil _) (SliceN.nil _) (by decide))
  go_wp2_with fail
  refine HSM.out.mono ?_
  rintro e w7 ⟨rfl,hb⟩
  have HB7:=Lib.hid (HB6.out.trans (hb.mono HB6.out.size))
  clear hb
  go_wp2
  go_ret
  exact⟨rfl,HB7.out⟩
end Go.Proofs.YtjfgmgkhinehaaaGreatDoor
