
import Derived.Test.YtjfgmgkhinehaaaGreatDoorCq29
set_option maxRecDepth 100000
set_option maxHeartbeats 16000000
set_option linter.all false
namespace Go.Proofs.YtjfgmgkhinehaaaGreatDoor
open Go
theorem rnL_pair: ∀(k:List ByteArray) (p:Option ByteArray),rnL p k=true→k.Pairwise (fun a b=>Op.bytesLess a.toList b.toList=true)∧(∀q,p=some q→ ∀t∈k,Op.bytesLess q.toList t.toList=true)∧ ∀t∈k,utfS t=true
 |[],p,_=>⟨List.Pairwise.nil,fun _ _ t ht=>(by cases ht),fun t ht=>(by cases ht)⟩
 |t::r,p,h=>by
  rw[zbi,Bool.and_eq_true,Bool.and_eq_true]at h
  obtain⟨⟨h1,h2⟩,h3⟩:=h
  obtain⟨i1,i2,i3⟩:=rnL_pair r (some t) h3
  refine⟨List.pairwise_cons.2 ⟨fun y hy=>i2 t rfl y hy,i1⟩,fun q hq y hy=> ?_,fun y hy=> ?_⟩
  ·subst hq
   rcases List.mem_cons.1 hy with rfl|hy
   ·exact h2
   ·exact zev _ _ _ h2 (i2 t rfl y hy)
  ·rcases List.mem_cons.1 hy with rfl|hy
   ·exact h1
   ·exact i3 y hy
end Go.Proofs.YtjfgmgkhinehaaaGreatDoor
namespace Go.Proofs.YtjfgmgkhinehaaaGreatDoor
open Go Go.RowKit
inductive Tiny:J→Prop
 |mk (kind n:Int) (s:ByteArray) (l:List J) (k:List ByteArray):s.size≤20000→(∀t∈k,t.size≤20000)→(∀x∈l,Tiny x)→Tiny (.mk kind n s l k)
theorem zhg {l:List Int} (hl:l.length≤4096) (i:Nat):(toS (zah l i).1).size≤20000:=by
 rw[zap]
 have:=zkZ l i
 omega
def GoodVY (d:Nat) (m:Int) (r:VR):Prop:=r.2.2.2=0→Rt r.1∧dpJ r.1≤d∧(szJ r.1:Int)=m-r.2.2.1∧Tiny r.1
theorem GoodVY.bad {d:Nat} {m:Int} {v:J} {p:Nat} {n e:Int} (he:e≠0):GoodVY d m (v,p,n,e):=fun h=>absurd h he
theorem zmV (d:Nat) (left:Int) (kind n:Int) (s:ByteArray) (p:Nat) (hs:s.size≤20000) (hc:zcc kind n s 0 0=true) (h:zdu kind n s=true):GoodVY d left (.mk kind n s [] [],p,left-1,0):=fun _=>by
 have hk:=leaf_kind h
 refine⟨.mk kind n s [] [] hc (fun e=>by omega) (.inr (.inr h)) (fun x hx=>(by cases hx)),?_,?_,.mk kind n s [] [] hs (fun t ht=>(by cases ht)) (fun x hx=>(by cases hx))⟩
 ·show dpJ (.mk kind n s [] [])≤d
  rw[dpJ,if_neg (by omega)];exact Nat.zero_le _
 ·show(szJ (.mk kind n s [] []):Int)=left-(left-1)
  rw[szJ,szLs];omega
theorem zfQ (l:List Int) (d:Nat) (left:Int) (kind n:Int) (s:ByteArray) (p:Nat×Int) (hs:s.size≤20000) (hc:zcc kind n s 0 0=true) (h:p.2=0→zdu kind n s=true):GoodVY d left (zce l (left-1) (.mk kind n s [] []) p):=by
 unfold zce
 by_cases hp:p.2≠0
 ·rw[if_pos hp];exact .bad hp
 ·rw[if_neg hp];exact zmV d left kind n s _ hs hc (h (by omega))
theorem zlg (l:List Int) (hl:l.length≤4096) (d:Nat) (many:Nat→Int→VR) (hm: ∀i left,GoodVY d (left+1) (many i left)) (i:Nat) (left:Int):GoodVY d left (valF l many i left):=by
 unfold valF
 split
 ·exact .bad (by decide)
 split
 ·exact .bad (by decide)
 split
 ·split
  ·exact .bad (by decide)
  split
  ·rename_i hf
   unfold fitL at hf
   rw[decide_eq_true_eq]at hf
   exact zmV d left 2 _ _ _ (by decide) (by rw[zal];simp) (by
    unfold zdu
    rw[if_neg (by decide),if_neg (by decide),if_pos rfl,Bool.and_eq_true,decide_eq_true_eq,decide_eq_true_eq]
    exact⟨hf.2.2.1,hf.2.2.2⟩)
  ·exact .bad (by decide)
 split
 ·exact zfQ l d left 0 0 ⟨#[]⟩ _ (by decide) (by decide) (fun _=>by decide)
 split
 ·exact zfQ l d left 1 1 ⟨#[]⟩ _ (by decide) (by decide) (fun _=>by decide)
 split
 ·exact zfQ l d left 1 0 ⟨#[]⟩ _ (by decide) (by decide) (fun _=>by decide)
 split
 ·refine zfQ l d left 3 0 _ _ (zhg hl i) (by rw[zal];simp) (fun h=> ?_)
  unfold zdu
  rw[if_neg (by decide),if_neg (by decide),if_neg (by decide),if_pos rfl]
  exact(zgV l i h).toS
 ·have:=hm i (left-1)
  rwa [show left-1+1=left by omega]at this
def HadY (d:Nat) (obj:Bool) (ks:List ByteArray) (vs:List J):Prop:=(∀x∈vs,Rt x∧dpJ x≤d∧Tiny x)∧(if obj=true then ∃r:List (ByteArray×J),ks=r.map Prod.fst∧vs=r.map Prod.snd∧Rises r∧ ∀m∈r,utfS m.1=true∧m.1.size≤20000 else ks=[])
theorem HadY.list {d:Nat} {vs:List J} {x:J} (h:HadY d false [] vs) (hx:Rt x∧dpJ x≤d∧Tiny x):HadY d false [] (vs++[x]):=⟨fun y hy=>by
 rcases List.mem_append.1 hy with hy|hy
 ·exact h.1 y hy
 ·rw[List.mem_singleton]at hy;subst hy;exact hx,by rw[if_neg (by simp)]⟩
theorem HadY.obj {d:Nat} {ks:List ByteArray} {vs:List J} {t:ByteArray} {x:J} (h:HadY d true ks vs) (hx:Rt x∧dpJ x≤d∧Tiny x) (ht:utfS t=true∧t.size≤20000) (hk:hasK ks t=false):
  HadY d true (zaw t x false ks vs).1 (zaw t x false ks vs).2∧szLs (zaw t x false ks vs).2=szJ x+szLs vs:=by
 obtain⟨h1,h2⟩:=h
 rw[if_pos rfl]at h2
 obtain⟨r,rfl,rfl,hr,hu⟩:=h2
 have hne: ∀m∈r,m.1≠t:=fun m hm e=>by
  unfold hasK at hk
  rw[List.any_eq_false]at hk
  exact hk m.1 (List.mem_map_of_mem hm) (by simpa using e)
 rw[zhl t x r hne]
 have hp:=zfw t x r
 refine⟨⟨fun y hy=> ?_,?_⟩,?_⟩
 ·obtain⟨m,hm,rfl⟩:=List.mem_map.1 hy
  rcases List.mem_cons.1 (hp.mem_iff.1 hm)with rfl|hm
  ·exact hx
  ·exact h1 _ (List.mem_map_of_mem hm)
 ·rw[if_pos rfl]
  refine⟨_,rfl,rfl,zgb t x r hne hr,fun m hm=> ?_⟩
  rcases List.mem_cons.1 (hp.mem_iff.1 hm)with rfl|hm
  ·exact ht
  ·exact hu m hm
 ·rw[szLs_perm (hp.map Prod.snd),List.map_cons,szLs]
theorem rnL_ofY: ∀(r:List (ByteArray×J)) (p:Option ByteArray),Rises r→(∀m∈r,utfS m.1=true)→(∀q,p=some q→ ∀m∈r,Op.bytesLess q.toList m.1.toList=true)→rnL p (r.map Prod.fst)=true
 |[],p,_,_,_=>znX p
 |m::r,p,hr,hu,hp=>by
  unfold Rises at hr
  rw[List.pairwise_cons]at hr
  rw[List.map_cons,zbi,hu m (by simp),rnL_ofY r (some m.1) hr.2 (fun y hy=>hu y (List.mem_cons_of_mem _ hy)) (fun q hq y hy=>by injection hq with hq;subst hq;exact hr.1 y hy)]
  cases p with
  |none=>rfl
  |some q=>simp[hp q rfl m (by simp)]
theorem zfu (l:List Int) (hl:l.length≤4096) (d:Nat) (val:Nat→Int→VR) (hv: ∀i left,GoodVY d left (val i left)) (obj:Bool): ∀(f:Nat) (first:Bool) (i:Nat) (left:Int) (ks:List ByteArray) (vs:List J),HadY d obj ks vs→GoodVY (d+1) (1+(szLs vs:Int)+left) (zas l val obj f first i left ks vs)
 |0,first,i,left,ks,vs,_=> .bad (by decide)
 |f+1,first,i,left,ks,vs,hh=>by
  have item: ∀(a:Nat) (t:ByteArray),(obj=true→(utfS t=true∧t.size≤20000)∧hasK ks t=false)→GoodVY (d+1) (1+(szLs vs:Int)+left) (zfb l val obj (zas l val obj f false) a left t ks vs):=fun a t ht=>by
   unfold zfb
   by_cases he:(val a left).2.2.2≠0
   ·rw[if_pos he];exact .bad he
   ·rw[if_neg he]
    obtain⟨h1,h2,h3,h4⟩:=hv a left (by omega)
    by_cases hc:atL l (val a left).2.1≠44∧atL l (val a left).2.1≠(if obj=true then 125 else 93)
    ·rw[if_pos hc];exact .bad (by decide)
    ·rw[if_neg hc]
     cases obj
     ·have hks:ks=[]:=by have:=hh.2;rwa [if_neg (by simp)]at this
      subst hks
      have:=zfu l hl d val hv false f false (val a left).2.1 (val a left).2.2.1 [] (vs++[(val a left).1]) (hh.list ⟨h1,h2,h4⟩)
      rw[zmr,szLs,szLs]at this
      rw[if_neg (by simp)]
      rwa [show 1+((szLs vs+(szJ (val a left).1+0):Nat):Int)+(val a left).2.2.1=1+(szLs vs:Int)+left by omega]at this
     ·obtain⟨t1,t2⟩:=ht rfl
      obtain⟨q1,q2⟩:=hh.obj ⟨h1,h2,h4⟩ t1 t2
      have:=zfu l hl d val hv true f false (val a left).2.1 (val a left).2.2.1 _ _ q1
      rw[q2]at this
      rw[if_pos rfl]
      rwa [show 1+((szJ (val a left).1+szLs vs:Nat):Int)+(val a left).2.2.1=1+(szLs vs:Int)+left by omega]at this
  have memb: ∀(a:Nat),GoodVY (d+1) (1+(szLs vs:Int)+left) (zem l val obj (zas l val obj f false) a left ks vs):=fun a=>by
   unfold zem
   split
   ·split
    ·rename_i he;exact .bad he
    ·rename_i he
     have hub:=zgV l a (by omega)
     split
     ·exact .bad (by decide)
     ·rename_i hk
      split
      ·exact .bad (by decide)
      ·exact item _ _ (fun _=>⟨⟨hub.toS,zhg hl a⟩,by simpa using hk⟩)
   ·rename_i ho
    exact item _ _ (fun h=>absurd h ho)
  rw[zas]
  by_cases he:atL l i=(if obj=true then 125 else 93)
  ·rw[if_pos he]
   intro _
   obtain⟨g1,g2⟩:=hh
   have hdp:dpLs vs≤d:=(dpLs_le vs).2 fun x hx=>(g1 x hx).2.1
   cases obj
   ·rw[if_neg (by simp)]at g2
    subst g2
    refine⟨.mk 4 0 ⟨#[]⟩ vs [] (by rw[zal];simp) (fun h=>absurd h (by decide)) (.inl rfl) (fun x hx=>(g1 x hx).1),?_,?_,.mk _ _ _ _ _ (by decide) (fun t ht=>(by cases ht)) (fun x hx=>(g1 x hx).2.2)⟩
    ·show dpJ (.mk 4 0 ⟨#[]⟩ vs [])≤d+1
     rw[dpJ,if_pos (.inl rfl)];omega
    ·show(szJ (.mk 4 0 ⟨#[]⟩ vs []):Int)=1+(szLs vs:Int)+left-left
     rw[szJ];omega
   ·rw[if_pos rfl]at g2
    obtain⟨r,rfl,rfl,hr,hu⟩:=g2
    refine⟨.mk 5 0 ⟨#[]⟩ _ _ (by rw[zal];simp) (fun _=>⟨by simp,rnL_ofY r none hr (fun m hm=>(hu m hm).1) (fun q hq=>by cases hq)⟩) (.inr (.inl rfl)) (fun x hx=>(g1 x hx).1),?_,?_,.mk _ _ _ _ _ (by decide) (fun t ht=>(by obtain⟨m,hm,rfl⟩:=List.mem_map.1 ht;exact(hu m hm).2)) (fun x hx=>(g1 x hx).2.2)⟩
    ·show dpJ (.mk 5 0 ⟨#[]⟩ _ _)≤d+1
     rw[dpJ,if_pos (.inr rfl)];omega
    ·show(szJ (.mk 5 0 ⟨#[]⟩ (r.map Prod.snd) (r.map Prod.fst)):Int)=1+(szLs (r.map Prod.snd):Int)+left-left
     rw[szJ];omega
  ·rw[if_neg he]
   split
   ·exact memb _
   ·split
    ·exact .bad (by decide)
    ·exact memb _
theorem zij (l:List Int) (hl:l.length≤4096): ∀(d i:Nat) (left:Int),GoodVY d left (zag l d i left)
 |0,i,left=>by rw[zag];exact zlg l hl 0 _ (fun i left=> .bad (by decide)) i left
 |d+1,i,left=>by
  rw[zag]
  refine zlg l hl (d+1) _ (fun i left=> ?_) i left
  unfold zbX
  have:=zfu l hl d (zag l d) (fun i left=>zij l hl d i left) (decide (atL l i=123)) (l.length+1) true (zaY l (i+1)) left [] [] ⟨fun x hx=>(by cases hx),by split<;>first|exact⟨[],rfl,rfl,List.Pairwise.nil,fun m hm=>(by cases hm)⟩|rfl⟩
  rw[szLs]at this
  rwa [show 1+((0:Nat):Int)+left=left+1 by omega]at this
theorem znl (l:List Int) (h:(zar l).2.1=0):(rgt (zar l).1 1 256).1=true∧Tiny (zar l).1:=by
 rw[zib]at h⊢
 unfold zed at h⊢
 by_cases h1:4096<l.length
 ·rw[if_pos h1]at h;exact absurd (show(2:Int)=0 from h) (by decide)
 rw[if_neg h1]at h⊢
 by_cases h2:(zag l 8 (zaY l 0) 256).2.2.2≠0
 ·rw[if_pos h2]at h;exact absurd h h2
 rw[if_neg h2]at h⊢
 by_cases h3:(zag l 8 (zaY l 0) 256).2.1<l.length
 ·rw[if_pos h3]at h;exact absurd (show(50:Int)=0 from h) (by decide)
 rw[if_neg h3]
 obtain⟨a,b,c,m⟩:=zij l (by omega) 8 (zaY l 0) 256 (by omega)
 obtain⟨_,_,m3,_⟩:=zbZ l 8 (zaY l 0) 256 (zan (Nat.zero_le _)).2 (by omega)
 show(rgt (zag l 8 (zaY l 0) 256).1 1 256).1=true∧Tiny (zag l 8 (zaY l 0) 256).1
 exact⟨(zfq _).2 ⟨a,by omega,b⟩,m⟩
end Go.Proofs.YtjfgmgkhinehaaaGreatDoor
