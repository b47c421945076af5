
import Derived.Test.YtceddodfddlncaaGreatDoorJb37
set_option maxRecDepth 100000
set_option maxHeartbeats 16000000
set_option linter.all false
namespace Go.Proofs.YtceddodfddlncaaGreatDoor
open Go
theorem badU_app: ∀(n:Nat) (a b:List Int),a.length≤n→badU a=a.length→badU (a++b)=a.length+badU b
 |_,[],b,_,_=>by rw[List.nil_append,List.length_nil,Nat.zero_add]
 |0,c::r,_,h,_=>by simp at h
 |n+1,c::r,b,hl,hu=>by
  have hv:(nxL (c::r)).1≠ -1:=fun e=>by rw[zfs e]at hu;cases hu
  have hb:=zft hv
  obtain⟨p1,p2,p3,p4,_,p6,p7⟩:=zcZ hv
  obtain⟨m,hm⟩: ∃m,m=(nxL (c::r)).2:=⟨_,rfl⟩
  obtain⟨N,hN⟩: ∃N,N=(nxL (c::r)).1:=⟨_,rfl⟩
  rw[←hm]at hb p1 p2 p3 p4
  rw[←hN]at p1 p2 p6 p7
  have e:c::r=putL N++(c::r).drop m:=by rw[p1,List.take_append_drop]
  have hnx:nxL (c::r++b)=(N,m):=by
   rw[e,List.append_assoc,nx_put p7,p2]
  have hd:(c::r++b).drop m=(c::r).drop m++b:=List.drop_append_of_le_length p4
  have ih:=badU_app n ((c::r).drop m) b (by rw[List.length_drop];simp only[List.length_cons]at hl⊢;omega) (by rw[List.length_drop];omega)
  rw[zft (by rw[hnx];show N≠ -1;omega),hnx]
  show m+badU ((c::r++b).drop m)=_
  rw[hd,ih,List.length_drop]
  omega
theorem badU_snoc {a t:List Int} (ha:badU a=a.length) (ht:badU t=t.length):badU (a++t)=(a++t).length:=by
 rw[badU_app _ a t (Nat.le_refl _) ha,ht,List.length_append]
theorem badU_nil:badU []=0:=rfl
theorem badU_put (n:Int):badU (putL n)=(putL n).length:=by
 by_cases h:putL n=[]
 ·rw[h];rfl
 ·have hx:=nx_put h []
  rw[List.append_nil]at hx
  have hn:n≠ -1:=fun e=>h (by rw[e];rfl)
  rw[zft (by rw[hx];exact hn),hx]
  show(putL n).length+badU ((putL n).drop (putL n).length)=_
  rw[List.drop_length,badU_nil,Nat.add_zero]
theorem plain_put (c:Int): ∃n,zay c=putL n:=by
 unfold zay
 split
 ·rename_i h;exact⟨c,(zea (by omega) (by omega)).symm⟩
 split
 ·exact⟨8,rfl⟩
 split
 ·exact⟨12,rfl⟩
 split
 ·exact⟨10,rfl⟩
 split
 ·exact⟨13,rfl⟩
 split
 ·exact⟨9,rfl⟩
 ·exact⟨-1,rfl⟩
def UB (t:List Int):Prop:=Bytes t∧badU t=t.length
theorem UB.put {t:List Int} (h:UB t) (n:Int):UB (t++putL n):=⟨h.1.append (zgX n),badU_snoc h.2 (badU_put n)⟩
theorem UB.nil:UB []:=⟨.of_mem (by simp),rfl⟩
theorem UB.toS {t:List Int} (h:UB t):utfS (toS t)=true:=by
 unfold utfS
 rw[zcb h.1]
 exact decide_eq_true h.2
theorem zhJ (l:List Int): ∀(f i:Nat) (out:List Int),UB out→(zbq l f i out).2.2=0→UB (zbq l f i out).1
 |0,i,out,_,h=>absurd (show(50:Int)=0 from h) (by decide)
 |f+1,i,out,ho,h=>by
  rw[zbq]at h⊢
  by_cases h1:atL l i<32
  ·rw[if_pos h1]at h;exact absurd (show(50:Int)=0 from h) (by decide)
  rw[if_neg h1]at h⊢
  by_cases h2:atL l i=34
  ·rw[if_pos h2];exact ho
  rw[if_neg h2]at h⊢
  by_cases h3:atL l i≠92
  ·rw[if_pos h3]at h⊢
   by_cases h4:(nxL (l.drop i)).1<0
   ·rw[if_pos h4]at h;exact absurd (show(50:Int)=0 from h) (by decide)
   rw[if_neg h4]at h⊢
   have hf:=(zcZ (l:=l.drop i) (by omega)).1
   rw[←hf]at h⊢
   exact zhJ l f _ _ (ho.put _) h
  rw[if_neg h3]at h⊢
  by_cases h5:atL l (i+1)≠117
  ·rw[if_pos h5]at h⊢
   by_cases h6:zay (atL l (i+1))=[]
   ·rw[if_pos h6]at h;exact absurd (show(50:Int)=0 from h) (by decide)
   rw[if_neg h6]at h⊢
   obtain⟨n,hn⟩:=plain_put (atL l (i+1))
   rw[hn]at h⊢
   exact zhJ l f _ _ (ho.put _) h
  rw[if_neg h5]at h⊢
  by_cases h7:(hexL l 4 (i+2) 0).1<0
  ·rw[if_pos h7]at h;exact absurd (show(50:Int)=0 from h) (by decide)
  rw[if_neg h7]at h⊢
  by_cases h8:(hexL l 4 (i+2) 0).1<55296∨57343<(hexL l 4 (i+2) 0).1
  ·rw[if_pos h8]at h⊢
   exact zhJ l f _ _ (ho.put _) h
  rw[if_neg h8]at h⊢
  by_cases h9:56320≤(hexL l 4 (i+2) 0).1∨zbm l i<56320∨57343<zbm l i
  ·rw[if_pos h9]at h;exact absurd (show(50:Int)=0 from h) (by decide)
  rw[if_neg h9]at h⊢
  exact zhJ l f _ _ (ho.put _) h
theorem zlj (l:List Int) (i:Nat) (h:(zan l i).2.2=0):UB (zan l i).1:=by
 unfold zan at h⊢
 by_cases h1:atL l i≠34
 ·rw[if_pos h1]at h;exact absurd (show(50:Int)=0 from h) (by decide)
 rw[if_neg h1]at h⊢
 exact zhJ l _ _ _ UB.nil h
theorem quotL_max (l:List Int): ∀(f i:Nat) (out:List Int),(zbq l f i out).1.length≤out.length+4*f
 |0,i,out=>by rw[zbq];simp
 |f+1,i,out=>by
  rw[zbq]
  have go: ∀(j:Nat) (t:List Int),t.length≤4→(zbq l f j (out++t)).1.length≤out.length+4*(f+1):=fun j t ht=>by
   have:=quotL_max l f j (out++t)
   rw[List.length_append]at this
   omega
  split
  ·simp
  split
  ·show out.length≤_;omega
  split
  ·split
   ·simp
   ·exact go _ _ (by have:=(nx_bd (l.drop i)).2.2.1;rw[List.length_take];omega)
  split
  ·split
   ·simp
   ·obtain⟨n,hn⟩:=plain_put (atL l (i+1))
    exact go _ _ (by rw[hn];exact zdc n)
  split
  ·simp
  split
  ·exact go _ _ (zdc _)
  split
  ·simp
  ·exact go _ _ (zdc _)
theorem quotedL_max (l:List Int) (i:Nat):(zan l i).1.length≤4*(l.length+1):=by
 unfold zan
 split
 ·simp
 ·have:=quotL_max l (l.length+1) (i+1) []
  simpa using this
theorem ziY {l:List Int} (hl:l.length≤100000000) (i:Nat):(toS (zan l i).1).size≤1000000000:=by
 rw[zcm]
 have:=quotedL_max l i
 omega
def GoodV (d:Nat) (m:Int) (r:VR):Prop:=r.2.2.2=0→Rt r.1∧dpJ r.1≤d∧(szJ r.1:Int)=m-r.2.2.1∧Mild r.1
theorem GoodV.bad {d:Nat} {m:Int} {v:J} {p:Nat} {n e:Int} (he:e≠0):GoodV d m (v,p,n,e):=fun h=>absurd h he
theorem leaf_good (d:Nat) (left:Int) (kind n:Int) (s:ByteArray) (p:Nat) (hs:s.size≤1000000000) (hc:zch kind n s 0 0=true) (h:zdz kind n s=true):GoodV d left (.mk kind n s [] [],p,left-1,0):=fun _=>by
 have hk:=zkZ h
 refine⟨.mk kind n s [] [] hc (fun e=>by omega) (.inr (.inr h)) (fun x hx=>(by cases hx)),?_,?_,.mk kind n s [] [] hs (fun t ht=>(by cases ht)) (fun x hx=>(by cases hx))⟩
 ·show dpJ (.mk kind n s [] [])≤d
  rw[dpJ,if_neg (by omega)];exact Nat.zero_le _
 ·show(szJ (.mk kind n s [] []):Int)=left-(left-1)
  rw[szJ,szLs];omega
theorem zfw (l:List Int) (d:Nat) (left:Int) (kind n:Int) (s:ByteArray) (p:Nat×Int) (hs:s.size≤1000000000) (hc:zch kind n s 0 0=true) (h:p.2=0→zdz kind n s=true):GoodV d left (zdh l (left-1) (.mk kind n s [] []) p):=by
 unfold zdh
 by_cases hp:p.2≠0
 ·rw[if_pos hp];exact .bad hp
 ·rw[if_neg hp];exact leaf_good d left kind n s _ hs hc (h (by omega))
theorem valF_good (l:List Int) (hl:l.length≤100000000) (d:Nat) (many:Nat→Int→VR) (hm: ∀i left,GoodV d (left+1) (many i left)) (i:Nat) (left:Int):GoodV d left (valF l many i left):=by
 unfold valF
 split
 ·exact .bad (by decide)
 split
 ·exact .bad (by decide)
 split
 ·split
  ·exact .bad (by decide)
  split
  ·rename_i hf
   unfold fitL at hf
   rw[decide_eq_true_eq]at hf
   exact leaf_good d left 2 _ _ _ (by decide) (by rw[zaj];simp) (by
    unfold zdz
    rw[if_neg (by decide),if_neg (by decide),if_pos rfl,Bool.and_eq_true,decide_eq_true_eq,decide_eq_true_eq]
    exact⟨hf.2.2.1,hf.2.2.2⟩)
  ·exact .bad (by decide)
 split
 ·exact zfw l d left 0 0 ⟨#[]⟩ _ (by decide) (by decide) (fun _=>by decide)
 split
 ·exact zfw l d left 1 1 ⟨#[]⟩ _ (by decide) (by decide) (fun _=>by decide)
 split
 ·exact zfw l d left 1 0 ⟨#[]⟩ _ (by decide) (by decide) (fun _=>by decide)
 split
 ·refine zfw l d left 3 0 _ _ (ziY hl i) (by rw[zaj];simp) (fun h=> ?_)
  unfold zdz
  rw[if_neg (by decide),if_neg (by decide),if_neg (by decide),if_pos rfl]
  exact(zlj l i h).toS
 ·have:=hm i (left-1)
  rwa [show left-1+1=left by omega]at this
def Had (d:Nat) (obj:Bool) (ks:List ByteArray) (vs:List J):Prop:=(∀x∈vs,Rt x∧dpJ x≤d∧Mild x)∧(if obj=true then ∃r:List (ByteArray×J),ks=r.map Prod.fst∧vs=r.map Prod.snd∧Rises r∧ ∀m∈r,utfS m.1=true∧m.1.size≤1000000000 else ks=[])
theorem Had.list {d:Nat} {vs:List J} {x:J} (h:Had d false [] vs) (hx:Rt x∧dpJ x≤d∧Mild x):Had d false [] (vs++[x]):=⟨fun y hy=>by
 rcases List.mem_append.1 hy with hy|hy
 ·exact h.1 y hy
 ·rw[List.mem_singleton]at hy;subst hy;exact hx,by rw[if_neg (by simp)]⟩
theorem Had.obj {d:Nat} {ks:List ByteArray} {vs:List J} {t:ByteArray} {x:J} (h:Had d true ks vs) (hx:Rt x∧dpJ x≤d∧Mild x) (ht:utfS t=true∧t.size≤1000000000) (hk:hasK ks t=false):
  Had d true (zca t x false ks vs).1 (zca t x false ks vs).2∧szLs (zca t x false ks vs).2=szJ x+szLs vs:=by
 obtain⟨h1,h2⟩:=h
 rw[if_pos rfl]at h2
 obtain⟨r,rfl,rfl,hr,hu⟩:=h2
 have hne: ∀m∈r,m.1≠t:=fun m hm e=>by
  unfold hasK at hk
  rw[List.any_eq_false]at hk
  exact hk m.1 (List.mem_map_of_mem hm) (by simpa using e)
 rw[zjt t x r hne]
 have hp:=zhh t x r
 refine⟨⟨fun y hy=> ?_,?_⟩,?_⟩
 ·obtain⟨m,hm,rfl⟩:=List.mem_map.1 hy
  rcases List.mem_cons.1 (hp.mem_iff.1 hm)with rfl|hm
  ·exact hx
  ·exact h1 _ (List.mem_map_of_mem hm)
 ·rw[if_pos rfl]
  refine⟨_,rfl,rfl,zhx t x r hne hr,fun m hm=> ?_⟩
  rcases List.mem_cons.1 (hp.mem_iff.1 hm)with rfl|hm
  ·exact ht
  ·exact hu m hm
 ·rw[szLs_perm (hp.map Prod.snd),List.map_cons,szLs]
theorem rnL_of: ∀(r:List (ByteArray×J)) (p:Option ByteArray),Rises r→(∀m∈r,utfS m.1=true)→(∀q,p=some q→ ∀m∈r,Op.bytesLess q.toList m.1.toList=true)→rnL p (r.map Prod.fst)=true
 |[],p,_,_,_=>rnL_nil p
 |m::r,p,hr,hu,hp=>by
  unfold Rises at hr
  rw[List.pairwise_cons]at hr
  rw[List.map_cons,zdm,hu m (by simp),rnL_of r (some m.1) hr.2 (fun y hy=>hu y (List.mem_cons_of_mem _ hy)) (fun q hq y hy=>by injection hq with hq;subst hq;exact hr.1 y hy)]
  cases p with
  |none=>rfl
  |some q=>simp[hp q rfl m (by simp)]
theorem zgn (l:List Int) (hl:l.length≤100000000) (d:Nat) (val:Nat→Int→VR) (hv: ∀i left,GoodV d left (val i left)) (obj:Bool): ∀(f:Nat) (first:Bool) (i:Nat) (left:Int) (ks:List ByteArray) (vs:List J),Had d obj ks vs→GoodV (d+1) (1+(szLs vs:Int)+left) (zat l val obj f first i left ks vs)
 |0,first,i,left,ks,vs,_=> .bad (by decide)
 |f+1,first,i,left,ks,vs,hh=>by
  have item: ∀(a:Nat) (t:ByteArray),(obj=true→(utfS t=true∧t.size≤1000000000)∧hasK ks t=false)→GoodV (d+1) (1+(szLs vs:Int)+left) (zfa l val obj (zat l val obj f false) a left t ks vs):=fun a t ht=>by
   unfold zfa
   by_cases he:(val a left).2.2.2≠0
   ·rw[if_pos he];exact .bad he
   ·rw[if_neg he]
    obtain⟨h1,h2,h3,h4⟩:=hv a left (by omega)
    by_cases hc:atL l (val a left).2.1≠44∧atL l (val a left).2.1≠(if obj=true then 125 else 93)
    ·rw[if_pos hc];exact .bad (by decide)
    ·rw[if_neg hc]
     cases obj
     ·have hks:ks=[]:=by have:=hh.2;rwa [if_neg (by simp)]at this
      subst hks
      have:=zgn l hl d val hv false f false (val a left).2.1 (val a left).2.2.1 [] (vs++[(val a left).1]) (hh.list ⟨h1,h2,h4⟩)
      rw[szLs_app,szLs,szLs]at this
      rw[if_neg (by simp)]
      rwa [show 1+((szLs vs+(szJ (val a left).1+0):Nat):Int)+(val a left).2.2.1=1+(szLs vs:Int)+left by omega]at this
     ·obtain⟨t1,t2⟩:=ht rfl
      obtain⟨q1,q2⟩:=hh.obj ⟨h1,h2,h4⟩ t1 t2
      have:=zgn l hl d val hv true f false (val a left).2.1 (val a left).2.2.1 _ _ q1
      rw[q2]at this
      rw[if_pos rfl]
      rwa [show 1+((szJ (val a left).1+szLs vs:Nat):Int)+(val a left).2.2.1=1+(szLs vs:Int)+left by omega]at this
  have memb: ∀(a:Nat),GoodV (d+1) (1+(szLs vs:Int)+left) (zfg l val obj (zat l val obj f false) a left ks vs):=fun a=>by
   unfold zfg
   split
   ·split
    ·rename_i he;exact .bad he
    ·rename_i he
     have hub:=zlj l a (by omega)
     split
     ·exact .bad (by decide)
     ·rename_i hk
      split
      ·exact .bad (by decide)
      ·exact item _ _ (fun _=>⟨⟨hub.toS,ziY hl a⟩,by simpa using hk⟩)
   ·rename_i ho
    exact item _ _ (fun h=>absurd h ho)
  rw[zat]
  by_cases he:atL l i=(if obj=true then 125 else 93)
  ·rw[if_pos he]
   intro _
   obtain⟨g1,g2⟩:=hh
   have hdp:dpLs vs≤d:=(dpLs_le vs).2 fun x hx=>(g1 x hx).2.1
   cases obj
   ·rw[if_neg (by simp)]at g2
    subst g2
    refine⟨.mk 4 0 ⟨#[]⟩ vs [] (by rw[zaj];simp) (fun h=>absurd h (by decide)) (.inl rfl) (fun x hx=>(g1 x hx).1),?_,?_,.mk _ _ _ _ _ (by decide) (fun t ht=>(by cases ht)) (fun x hx=>(g1 x hx).2.2)⟩
    ·show dpJ (.mk 4 0 ⟨#[]⟩ vs [])≤d+1
     rw[dpJ,if_pos (.inl rfl)];omega
    ·show(szJ (.mk 4 0 ⟨#[]⟩ vs []):Int)=1+(szLs vs:Int)+left-left
     rw[szJ];omega
   ·rw[if_pos rfl]at g2
    obtain⟨r,rfl,rfl,hr,hu⟩:=g2
    refine⟨.mk 5 0 ⟨#[]⟩ _ _ (by rw[zaj];simp) (fun _=>⟨by simp,rnL_of r none hr (fun m hm=>(hu m hm).1) (fun q hq=>by cases hq)⟩) (.inr (.inl rfl)) (fun x hx=>(g1 x hx).1),?_,?_,.mk _ _ _ _ _ (by decide) (fun t ht=>(by obtain⟨m,hm,rfl⟩:=List.mem_map.1 ht;exact(hu m hm).2)) (fun x hx=>(g1 x hx).2.2)⟩
    ·show dpJ (.mk 5 0 ⟨#[]⟩ _ _)≤d+1
     rw[dpJ,if_pos (.inr rfl)];omega
    ·show(szJ (.mk 5 0 ⟨#[]⟩ (r.map Prod.snd) (r.map Prod.fst)):Int)=1+(szLs (r.map Prod.snd):Int)+left-left
     rw[szJ];omega
  ·rw[if_neg he]
   split
   ·exact memb _
   ·split
    ·exact .bad (by decide)
    ·exact memb _
theorem zjW (l:List Int) (hl:l.length≤100000000): ∀(d i:Nat) (left:Int),GoodV d left (valueL l d i left)
 |0,i,left=>by rw[valueL];exact valF_good l hl 0 _ (fun i left=> .bad (by decide)) i left
 |d+1,i,left=>by
  rw[valueL]
  refine valF_good l hl (d+1) _ (fun i left=> ?_) i left
  unfold zfK
  have:=zgn l hl d (valueL l d) (fun i left=>zjW l hl d i left) (decide (atL l i=123)) (l.length+1) true (zaW l (i+1)) left [] [] ⟨fun x hx=>(by cases hx),by split<;>first|exact⟨[],rfl,rfl,List.Pairwise.nil,fun m hm=>(by cases hm)⟩|rfl⟩
  rw[szLs]at this
  rwa [show 1+((0:Nat):Int)+left=left+1 by omega]at this
theorem parsed_right (l:List Int) (h:(zai l).2.1=0):(rgt (zai l).1 1 256).1=true∧Mild (zai l).1:=by
 rw[zlo]at h⊢
 unfold parseL at h⊢
 by_cases h1:4096<l.length
 ·rw[if_pos h1]at h;exact absurd (show(2:Int)=0 from h) (by decide)
 rw[if_neg h1]at h⊢
 by_cases h2:(valueL l 8 (zaW l 0) 256).2.2.2≠0
 ·rw[if_pos h2]at h;exact absurd h h2
 rw[if_neg h2]at h⊢
 by_cases h3:(valueL l 8 (zaW l 0) 256).2.1<l.length
 ·rw[if_pos h3]at h;exact absurd (show(50:Int)=0 from h) (by decide)
 rw[if_neg h3]
 obtain⟨a,b,c,m⟩:=zjW l (by omega) 8 (zaW l 0) 256 (by omega)
 obtain⟨_,_,m3,_⟩:=zbh l 8 (zaW l 0) 256 (zak (Nat.zero_le _)).2 (by omega)
 show(rgt (valueL l 8 (zaW l 0) 256).1 1 256).1=true∧Mild (valueL l 8 (zaW l 0) 256).1
 exact⟨(zjl _).2 ⟨a,by omega,b⟩,m⟩
theorem parsed_text (j:J) (h:(rgt j 1 256).1=true) (hl:(zao j).length≤4096):zai (zao j)=(j,0, -1):=by
 obtain⟨h1,h2,h3⟩:=(zjl j).1 h
 have ha:At (zao j) 0 (zao j):=by unfold At;rw[List.drop_zero,Nat.zero_add,List.drop_length,List.append_nil]
 have hsk:zaW (zao j) 0=0:=zhr rfl (zdg (zhp h1 ha)).1
 have hend:atL (zao j) (zao j).length= -1:=by unfold atL;rw[List.getD_eq_getElem?_getD,List.getElem?_eq_none (Nat.le_refl _)];rfl
 have hv:=(value_back j h1 (zao j) 8 0 256 (by decide) ha (noD_of (by rw[Nat.zero_add,hend];omega))).1 ⟨by omega,h3⟩
 rw[Nat.zero_add,zhr hend (by decide)]at hv
 rw[zlo]
 unfold parseL
 rw[if_neg (by omega),hsk,hv,if_neg (by simp),if_neg (by simp)]
end Go.Proofs.YtceddodfddlncaaGreatDoor
namespace Go.Proofs.YtceddodfddlncaaGreatDoor
open Go Go.RowKit
theorem sm_of_rt {j:J} (h:Rt j) (hz:szJ j≤256):Sm j:=by
 induction j using J.ind with
 |h kind n s l k ih=>
  cases h with
  |mk _ _ _ _ _ a1 a2 a3 a4=>
   have hl: ∀(l:List J),l.length≤szLs l∧ ∀x∈l,szJ x≤szLs l:=fun l=>by
    induction l with
    |nil=>exact⟨by simp,fun x hx=>by cases hx⟩
    |cons y r ihr=>
     have:=szJ_pos y
     rw[szLs]
     refine⟨by simp;omega,fun x hx=> ?_⟩
     rcases List.mem_cons.1 hx with rfl|hx
     ·omega
     ·have:=ihr.2 x hx;omega
   rw[szJ]at hz
   have hkl:k.length≤l.length:=by
    by_cases h5:kind=5
    ·exact Nat.le_of_eq (a2 h5).1
    ·rw[clean_q a1 h5];exact Nat.zero_le _
   have:=(hl l).1
   exact .mk (by omega) (by omega) (fun x hx=>ih x hx (a4 x hx) (by have:=(hl l).2 x hx;omega))
theorem zib {l:List Int} (h:(zai l).2.1=0):Sm (zai l).1∧((zai l).1.kind=5→(zai l).1.k.length≤256∧ ∀t∈(zai l).1.k,t.size≤1000000000):=by
 obtain⟨h1,h2⟩:=parsed_right l h
 obtain⟨h3,h4,_⟩:=(zjl _).1 h1
 refine⟨sm_of_rt h3 h4,fun hk=> ?_⟩
 cases hp:(zai l).1 with
 |mk kind n s ls k=>
  rw[hp]at h2 h3 h4 hk
  cases h3 with
  |mk _ _ _ _ _ a1 a2 a3 a4=>
   cases h2 with
   |mk _ _ _ _ _ m1 m2 m3=>
    refine⟨?_,m2⟩
    have:=(a2 hk).1
    have hl: ∀l:List J,l.length≤szLs l:=fun l=>by
     induction l with
     |nil=>exact Nat.zero_le _
     |cons y r ihr=>have:=szJ_pos y;rw[szLs];simp;omega
    have:=hl ls
    rw[szJ]at h4
    show k.length≤256
    omega
theorem zeroJw:(Tryz.prog.info? 63).map (·.zero)=some (some (.agg zeros5.toArray)):=by kernel_rfl
theorem textW_rep (t:ByteArray) (W:World) (ht:t.size≤9223372036854775807):RepJ W (zbz t) (.agg #[.int .i64 3,.int .i64 0,.string t,.slice none 0 0,.slice none 0 0]):=by
 rw[zbz,RepJ]
 exact⟨_,none,0,rfl,ht,⟨none,0,rfl,by simp,fun h=>absurd rfl h⟩,by simp,fun h=>absurd rfl h⟩
theorem zmt (j:J) (ob:Nat) (c0 c1 c2 c3 h0 h1 h2 h3 h4:Value) (rest:List Value) (name text:ByteArray) (w:World) (hbk:Blk w ob 65 (c0::c1::c2::c3::h0::h1::h2::h3::h4::rest)) (hj:RepJ w j (.agg #[h0,h1,h2,h3,h4])) (hsm: ∀x∈j.l,Sm x) (ht:text.size≤9223372036854775807):
  Calls Tryz.prog 33 #[.pointer (some ⟨ob,0,none⟩),.string name,.string text] w fun e w'=>e= .returned (.bool (sayB j name text))∧Below w.heap.size w w':=by
 have HG:=Lib.hid (get_any j _ name w hj hsm)
 have HTX:=Lib.hid (fun W:World=>zgw text W ht)
 obtain⟨g,hg⟩: ∃g,g=(getJ j name).getD zeroJ:=⟨_,rfl⟩
 rw[←hg]at HG
 have HS:=Lib.hid (fun(W:World) (va:Value) (ha:RepJ W g va)=>same_any g (zbz text) va _ W ha (textW_rep text W ht))
 have HR:Hid (sayB j name text=zhZ g (zbz text)):=Lib.hid (by rw[hg];rfl)
 obtain⟨r,hr⟩: ∃r,r=zhZ g (zbz text):=⟨_,rfl⟩
 rw[HR.out,←hr]
 rw[←hr]at HS
 clear hg hr hj hsm ht HR
 go_enter Tryz.func33,Tryz.ntmps33
 go_wp2_with(first
  |(refine zae rfl (some 13) rfl _ (.tmp 12) rfl ob 4 rfl _ _ hbk [h0,h1,h2,h3,h4] (fun i v hv=>by match i,hv with|0,hv=>exact hv|1,hv=>exact hv|2,hv=>exact hv|3,hv=>exact hv|4,hv=>exact hv) _ Tryz.underlying63 rfl zau ?_;try go_frame)
  |(go_at_call 66;(with_reducible refine HG.out.mono ?_);rintro e w1 ⟨v,rfl,hrep,hb⟩;have HB1:=Lib.hid hb;have HRP:=Lib.hid hrep;obtain⟨vk,A,c,rfl, -,⟨K,d,rfl, -, -⟩, -, -⟩:=hrep.open;clear hb hrep HG)
  |(refine zaK rfl (some 7) rfl _ rfl _ zeroJw ?_;intro g7 w2 hg7 hb7 hgr;have HB2:=Lib.hid (HB1.out.grown hgr HB1.out.size (by simp));have HG2:=Lib.hid hgr;have HG7:=Lib.hid hg7;clear hgr hg7;try go_frame)
  |(refine zac rfl none rfl _ (.tmp 7) (.tmp 16) rfl g7 0 [_,_,_,_,_] rfl rfl _ _ hb7 (by simp[zeros5]) zau (by intro v hv;simp at hv;rcases hv with rfl|rfl|rfl|rfl|rfl<;>rfl) ?_;intro w3 hb8 hgr;rw[zah _ _ (by simp[zeros5])]at hb8;have HB8:=Lib.hid hb8;have HB3:=Lib.hid (HB2.out.grown hgr HB2.out.size (by intro k hk;injection hk with hk;have:=HG7.out;have:=HB1.out.size;omega));have HG3:=Lib.hid hgr;clear hgr hb7 hb8;try go_frame))
 have hrp3:RepJ w3 g (.agg #[.int .i64 g.kind,.int .i64 g.n,.string g.s,.slice A g.l.length c,.slice K g.k.length d]):=by
  have k1:=RepS.keeps (Keeps.grown HG2.out (fun b _ e=>by cases e)) (fun _ h _=>h) _ _ (RepJ.toS HRP.out)
  exact RepS.toJ _ _ (RepS.keeps (Keeps.grown HG3.out (fun b hb e=>by injection e with e;have:=HG7.out;have hb:b<w1.heap.size:=hb;omega)) (fun _ h _=>h) _ _ k1)
 have y0:w3.cell? ⟨g7,0,none⟩=some (.int .i64 g.kind):=HB8.out.cell 0
 have y1:w3.cell? ⟨g7,1,none⟩=some (.int .i64 g.n):=HB8.out.cell 1
 have y2:w3.cell? ⟨g7,2,none⟩=some (.string g.s):=HB8.out.cell 2
 have y3:w3.cell? ⟨g7,3,none⟩=some (.slice A g.l.length c):=HB8.out.cell 3
 have y4:w3.cell? ⟨g7,4,none⟩=some (.slice K g.k.length d):=HB8.out.cell 4
 have HR3:=Lib.hid hrp3
 clear hrp3 HRP HG2 HG3 HB8
 refine wp_region_held_drew (S:=fun X=>X.cell? ⟨g7,0,none⟩=some (.int .i64 g.kind)∧X.cell? ⟨g7,1,none⟩=some (.int .i64 g.n)∧X.cell? ⟨g7,2,none⟩=some (.string g.s)∧X.cell? ⟨g7,3,none⟩=some (.slice A g.l.length c)∧X.cell? ⟨g7,4,none⟩=some (.slice K g.k.length d)) (by kernel_rfl) ⟨y0,y1,y2,y3,y4⟩ (fun hHeld=> ?_)
 refine rgT 0 ?_
 try simp only[rgS]
 refine rgT 1 ?_
 try simp only[rgS]
 refine rgO 2 (fun K' hK=> ?_)
 go_simp
 go_at_call 68
 (with_reducible refine(HTX.out _).mono ?_)
 rintro e w4 ⟨rfl,hb⟩
 have HB4:=Lib.hid (HB3.out.drew.trans (hb.mono HB3.out.drew.size))
 have HR4:=Lib.hid (RepJ.below hb _ _ (RepJ.below (Below.refl _ w3).drew _ _ HR3.out))
 have q:=fun i v (h:w3.cell? ⟨g7,i,none⟩=some v)=>(hb.cell (p:=⟨g7,i,none⟩) (zaa h)).trans h
 refine hK.out _ _ ⟨q 0 _ y0,q 1 _ y1,q 2 _ y2,q 3 _ y3,q 4 _ y4⟩ (fun hH4=> ?_)
 clear hK K' hb hHeld q y0 y1 y2 y3 y4
 try simp only[rgS]
 refine rgO 3 (fun K' hK=> ?_)
 go_simp
 go_at_call 67
 (with_reducible refine(HS.out _ _ HR4.out).mono ?_)
 rintro e w5 ⟨rfl,hb⟩
 have HB5:=Lib.hid (HB4.out.trans (hb.mono HB4.out.size))
 have q:=fun i v (h:w4.cell? ⟨g7,i,none⟩=some v)=>(hb.cell (p:=⟨g7,i,none⟩) (zaa h)).trans h
 obtain⟨y0,y1,y2,y3,y4⟩:=hH4
 refine hK.out _ _ ⟨q 0 _ y0,q 1 _ y1,q 2 _ y2,q 3 _ y3,q 4 _ y4⟩ (fun hH5=> ?_)
 clear hK K' hb q y0 y1 y2 y3 y4
 try simp only[rgS]
 refine rgT 4 ?_
 try simp only[rgS]
 refine wpAnyH_done (by kernel_rfl) ?_ _
 go_wp2
 go_ret
 exact⟨rfl,HB5.out⟩
def PtAt (w:World) (g:Nat) (v:Value) (xs:List Int):Prop:= ∃A c,v= .slice A xs.length c∧xs.length≤c∧Src w g A xs
theorem PtAt.grown {w w':World} {g:Nat} {v:Value} {xs:List Int} (h:PtAt w g v xs) {row:Option Nat} (hb:w.grownBy w' row) (hr:row=none∨row=some g):PtAt w' g v xs:=by
 obtain⟨A,c,e,hc,hs⟩:=h;exact⟨A,c,e,hc,hs.grown hb hr⟩
def NoU8 (cs:List Value):Prop:= ∀v∈cs,∀x,v≠ .int .u8 x
theorem PtAt.of {w:World} {g:Nat} {t:TypeId} {cs:List Value} {A:Option Addr} {c:Nat} {xs:List Int} (hl:Lies w A xs) (hc:xs.length≤c) (hb:Blk w g t cs) (hn:NoU8 cs):PtAt w g (.slice A xs.length c) xs:=by
 refine⟨A,c,rfl,hc,fun hp=> ?_⟩
 obtain⟨b,o,e,h1,h2,h3⟩:=hl hp
 refine⟨b,o,e,fun e'=> ?_,h2,h3⟩
 subst e'
 have h0:=h3 0 (.int .u8 (xs.getD 0 0)) (zaq .u8 xs 0 hp)
 rw[hb.cell]at h0
 exact hn _ (List.mem_of_getElem? h0) _ rfl
theorem znJ {cs:List Value} (h:NoU8 cs) (i:Nat) (v:Value) (hv: ∀x,v≠ .int .u8 x):NoU8 (cs.set i v):=fun u hu x=>by
 rcases List.mem_or_eq_of_mem_set hu with h'|rfl
 ·exact h u h' x
 ·exact hv x
theorem LiesT.grown {w w':World} {b o:Nat} {ts:List ByteArray} {row:Option Nat} (h:LiesT w b o ts) (hg:w.grownBy w' row) (hne:some b≠row):LiesT w' b o ts:=fun i t hi=>hg.cell (h i t hi) hne
def CutTells (w:World) (ob:Nat) (text:ByteArray) (rest:List Value) (e:Ending) (w':World):Prop:=
 w.grownBy w' (some ob)∧((cutL (strL text)=none∧e= .returned (.bool false))∨
  ∃a b c body v1 v2 v3,cutL (strL text)=some (a,b,c)∧e= .returned (.bool true)∧strL body=a++46::b∧Blk w' ob 65 (.string body::v1::v2::v3::rest)∧PtAt w' ob v1 (decL a)∧PtAt w' ob v2 (decL b)∧PtAt w' ob v3 (decL c))
theorem cutL_len {l:List Int} (h:(zdX l).length≠3):cutL l=none:=by
 unfold cutL
 split
 ·rename_i a b c e;rw[e]at h;exact absurd rfl h
 ·rfl
theorem sizeSlW:(Tryz.prog.info? 46).map (·.size)=some 1:=by kernel_rfl
theorem cut_any (text:ByteArray) (ob:Nat) (bd p1 p2 p3:Value) (rest:List Value) (w:World) (hbk:Blk w ob 65 (bd::p1::p2::p3::rest)) (hno:NoU8 (bd::p1::p2::p3::rest)) (hM:MaxLW w) (hs:text.size≤4096):
  Calls Tryz.prog 30 #[.pointer (some ⟨ob,0,none⟩),.string text] w (CutTells w ob text rest):=by
 have HSP:=Lib.hid (splitD_any text w hM (by omega))
 have hob:=hbk.lt
 have HBK:=Lib.hid hbk
 have HNO:=Lib.hid hno
 have HLT:=Lib.hid (zaQ text)
 clear hbk hno hM
 go_enter Tryz.func30,Tryz.ntmps30
 go_wp2_with(go_at_call 62;fail)
 refine HSP.out.mono ?_
 rintro e w1 ⟨PS,hps,rfl,hl,hsz,hb⟩
 have HB1:=Lib.hid hb
 have HPS:=Lib.hid hps
 have HL:=Lib.hid hl
 have HSZ:=Lib.hid hsz
 obtain⟨n,hn⟩: ∃n,n=PS.length:=⟨_,rfl⟩
 rw[←hn]
 have HN:=Lib.hid hn
 clear hb hps hl hn hsz HSP
 by_cases h3:n=3
 case neg=>
  have h3b:((n:Int)==3)=false:=by rw[beq_eq_false_iff_ne];omega
  have h3i: ¬(n:Int)=3:=by omega
  go_wp2
  go_ret
  exact⟨(zaX HB1.out none).but _,.inl ⟨cutL_len (by rw[←HPS.out,List.length_map,←HN.out];exact h3),rfl⟩⟩
 case pos=>
  subst h3
  obtain⟨ta,tb,tc,rfl⟩: ∃a b c,PS=[a,b,c]:=by
   match PS,HN.out with
   |[a,b,c],_=>exact⟨a,b,c,rfl⟩
  have hdots:zdX (strL text)=[strL ta,strL tb,strL tc]:=HPS.out.symm
  have HCUT:Hid (cutL (strL text)=if zas (strL ta)= -1∧zas (strL tb)= -1∧zas (strL tc)= -1 then some (strL ta,strL tb,strL tc)else none):=Lib.hid (by unfold cutL;rw[hdots])
  have hfree:=fun p hp=>(zeu (strL text) p hp).2.2
  rw[hdots]at hfree
  have za:ta.size≤4096:=by have:=hfree (strL ta) (by simp);rw[zaQ,HLT.out]at this;omega
  have zb:tb.size≤4096:=by have:=hfree (strL tb) (by simp);rw[zaQ,HLT.out]at this;omega
  have zc:tc.size≤4096:=by have:=hfree (strL tc) (by simp);rw[zaQ,HLT.out]at this;omega
  have hne: ∀g,w.heap.size=g→some g≠some ob:=fun g hg e=>by injection e with e;omega
  have HNE:=Lib.hid (hne _ rfl)
  clear hfree hdots hne HN
  go_wp2
  go_loopw[17] (fun i wr=> ∃(k:Nat) (v1 v2 v3:Value),k≤3∧i= .int .i64 (k:Int)∧Blk wr ob 65 (bd::v1::v2::v3::rest)∧NoU8 (bd::v1::v2::v3::rest)∧w1.grownBy wr (some ob)∧(0<k→zas (strL ta)= -1∧PtAt wr ob v1 (decL (strL ta)))∧(1<k→zas (strL tb)= -1∧PtAt wr ob v2 (decL (strL tb)))∧(2<k→zas (strL tc)= -1∧PtAt wr ob v3 (decL (strL tc)))) (fun i _=>3-(intOf i).toNat)
  case atStart=>exact⟨0,p1,p2,p3,by decide,rfl,HBK.out.below HB1.out hob,HNO.out,zaY _ _,fun h=>absurd h (by decide),fun h=>absurd h (by decide),fun h=>absurd h (by decide)⟩
  case round=>
   obtain⟨k,v1,v2,v3,hk,rfl,hblk,hno,hgr,q1,q2,q3⟩:=hrel
   have HBL:=Lib.hid hblk
   have HNU:=Lib.hid hno
   have HGR:=Lib.hid hgr
   have HQ:=Lib.hid (And.intro q1 (And.intro q2 q3))
   have HLW:=Lib.hid (HL.out.grown hgr HNE.out)
   have hob2:ob<wr.heap.size:=hblk.lt
   clear hblk hno hgr q1 q2 q3
   rcases(show k=0∨k=1∨k=2∨k=3 by omega)with rfl|rfl|rfl|rfl
   ·have y:wr.cell? ⟨w.heap.size,0,none⟩=some (.string ta):=by have:=HLW.out 0 ta rfl;rwa [Nat.zero_add]at this
    by_cases hf:zas (strL ta)= -1
    ·have HDC:=Lib.hid (zfr ta wr (by omega) hf)
     go_wp2_with(first
      |(go_at_call 63;(with_reducible refine HDC.out.mono ?_);rintro e w4 ⟨A,c,rfl,hc,hl,hb⟩;have HBD:=Lib.hid hb;have hb4:=HBL.out.below hb hob2;have HP4:=Lib.hid (PtAt.of hl hc hb4 HNU.out);clear hc hl hb HDC)
      |(refine zaf rfl none rfl _ (.tmp 34) (.tmp 31) rfl ob 1 (.slice A (decL (strL ta)).length c) rfl rfl rfl _ _ hb4 (by simp) sizeSlW ?_;intro w5 hb5 hgr;have HB5:=Lib.hid hb5;have HG5:=Lib.hid hgr;clear hb5 hgr hb4;try go_frame))
     go_roundw
     case rel=>exact⟨1,_,v2,v3,by decide,by go_num,HB5.out,znJ HNU.out 1 _ (fun x h=>by cases h),(HGR.out.trans ((zaX HBD.out none).but _)).trans HG5.out,fun _=>⟨hf,HP4.out.grown HG5.out (.inr rfl)⟩,fun h=>absurd h (by decide),fun h=>absurd h (by decide)⟩
     case measure=>simp[intOf]
    ·have HDC:=Lib.hid (zfq ta wr (by omega) hf)
     have HR:Hid (cutL (strL text)=none):=Lib.hid (by rw[HCUT.out,if_neg (fun h=>hf h.1)])
     go_wp2_with(go_at_call 63;(with_reducible refine HDC.out.mono ?_);rintro e w4 ⟨rfl,hw4⟩;have HB4:=Lib.hid (show wr.grownBy w4 (some ob)from by rw[hw4];exact World.grownBy_alloc _ _ _);clear hw4 HDC)
     go_ret
     exact⟨((zaX HB1.out none).but _).trans (HGR.out.trans HB4.out),.inl ⟨HR.out,rfl⟩⟩
   ·have y:wr.cell? ⟨w.heap.size,1,none⟩=some (.string tb):=by have:=HLW.out 1 tb rfl;rwa [Nat.zero_add]at this
    by_cases hf:zas (strL tb)= -1
    ·have HDC:=Lib.hid (zfr tb wr (by omega) hf)
     go_wp2_with(first
      |(go_at_call 63;(with_reducible refine HDC.out.mono ?_);rintro e w4 ⟨A,c,rfl,hc,hl,hb⟩;have HBD:=Lib.hid hb;have hb4:=HBL.out.below hb hob2;have HP4:=Lib.hid (PtAt.of hl hc hb4 HNU.out);clear hc hl hb HDC)
      |(refine zaf rfl none rfl _ (.tmp 34) (.tmp 31) rfl ob 2 (.slice A (decL (strL tb)).length c) rfl rfl rfl _ _ hb4 (by simp) sizeSlW ?_;intro w5 hb5 hgr;have HB5:=Lib.hid hb5;have HG5:=Lib.hid hgr;clear hb5 hgr hb4;try go_frame))
     go_roundw
     case rel=>exact⟨2,v1,_,v3,by decide,by go_num,HB5.out,znJ HNU.out 2 _ (fun x h=>by cases h),(HGR.out.trans ((zaX HBD.out none).but _)).trans HG5.out,fun _=>⟨(HQ.out.1 (by decide)).1,(((HQ.out.1 (by decide)).2.grown (zaX HBD.out none) (.inl rfl)).grown HG5.out (.inr rfl))⟩,fun _=>⟨hf,HP4.out.grown HG5.out (.inr rfl)⟩,fun h=>absurd h (by decide)⟩
     case measure=>simp[intOf]
    ·have HDC:=Lib.hid (zfq tb wr (by omega) hf)
     have HR:Hid (cutL (strL text)=none):=Lib.hid (by rw[HCUT.out,if_neg (fun h=>hf h.2.1)])
     go_wp2_with(go_at_call 63;(with_reducible refine HDC.out.mono ?_);rintro e w4 ⟨rfl,hw4⟩;have HB4:=Lib.hid (show wr.grownBy w4 (some ob)from by rw[hw4];exact World.grownBy_alloc _ _ _);clear hw4 HDC)
     go_ret
     exact⟨((zaX HB1.out none).but _).trans (HGR.out.trans HB4.out),.inl ⟨HR.out,rfl⟩⟩
   ·have y:wr.cell? ⟨w.heap.size,2,none⟩=some (.string tc):=by have:=HLW.out 2 tc rfl;rwa [Nat.zero_add]at this
    by_cases hf:zas (strL tc)= -1
    ·have HDC:=Lib.hid (zfr tc wr (by omega) hf)
     go_wp2_with(first
      |(go_at_call 63;(with_reducible refine HDC.out.mono ?_);rintro e w4 ⟨A,c,rfl,hc,hl,hb⟩;have HBD:=Lib.hid hb;have hb4:=HBL.out.below hb hob2;have HP4:=Lib.hid (PtAt.of hl hc hb4 HNU.out);clear hc hl hb HDC)
      |(refine zaf rfl none rfl _ (.tmp 34) (.tmp 31) rfl ob 3 (.slice A (decL (strL tc)).length c) rfl rfl rfl _ _ hb4 (by simp) sizeSlW ?_;intro w5 hb5 hgr;have HB5:=Lib.hid hb5;have HG5:=Lib.hid hgr;clear hb5 hgr hb4;try go_frame))
     go_roundw
     case rel=>exact⟨3,v1,v2,_,by decide,by go_num,HB5.out,znJ HNU.out 3 _ (fun x h=>by cases h),(HGR.out.trans ((zaX HBD.out none).but _)).trans HG5.out,fun _=>⟨(HQ.out.1 (by decide)).1,(((HQ.out.1 (by decide)).2.grown (zaX HBD.out none) (.inl rfl)).grown HG5.out (.inr rfl))⟩,fun _=>⟨(HQ.out.2.1 (by decide)).1,(((HQ.out.2.1 (by decide)).2.grown (zaX HBD.out none) (.inl rfl)).grown HG5.out (.inr rfl))⟩,fun _=>⟨hf,HP4.out.grown HG5.out (.inr rfl)⟩⟩
     case measure=>simp[intOf]
    ·have HDC:=Lib.hid (zfq tc wr (by omega) hf)
     have HR:Hid (cutL (strL text)=none):=Lib.hid (by rw[HCUT.out,if_neg (fun h=>hf h.2.2)])
     go_wp2_with(go_at_call 63;(with_reducible refine HDC.out.mono ?_);rintro e w4 ⟨rfl,hw4⟩;have HB4:=Lib.hid (show wr.grownBy w4 (some ob)from by rw[hw4];exact World.grownBy_alloc _ _ _);clear hw4 HDC)
     go_ret
     exact⟨((zaX HB1.out none).but _).trans (HGR.out.trans HB4.out),.inl ⟨HR.out,rfl⟩⟩
   ·obtain⟨f1,g1⟩:=HQ.out.1 (by decide)
    obtain⟨f2,g2⟩:=HQ.out.2.1 (by decide)
    obtain⟨f3,g3⟩:=HQ.out.2.2 (by decide)
    have HG:=Lib.hid (And.intro g1 (And.intro g2 g3))
    have HR:Hid (cutL (strL text)=some (strL ta,strL tb,strL tc)):=Lib.hid (by rw[HCUT.out,if_pos ⟨f1,f2,f3⟩])
    have hl2:LiesT wr w.heap.size 0 [ta,tb]:=fun i t hi=>by
     match i,hi with
     |0,hi=>exact HLW.out 0 t hi
     |1,hi=>exact HLW.out 1 t hi
    have HJ:=Lib.hid (zkK ta tb w.heap.size 0 3 wr hl2 (Nat.lt_of_lt_of_le HSZ.out HGR.out.size) (by decide) (by omega))
    have HBL2:=Lib.hid (fun w' (h:Below wr.heap.size wr w')=>HBL.out.below h hob2)
    clear f1 f2 f3 g1 g2 g3 hl2
    go_wp2_with(first
     |(go_at_call 50;(with_reducible refine HJ.out.mono ?_);rintro e w4 ⟨body,hbody,rfl,hb⟩;have HBD:=Lib.hid hb;have HBY:=Lib.hid hbody;have hb4:=HBL2.out _ hb;clear hb hbody HJ)
     |(refine zaf rfl none rfl _ (.tmp 41) (.tmp 39) rfl ob 0 (.string body) rfl rfl rfl _ _ hb4 (by simp) (by kernel_rfl) ?_;intro w5 hb5 hgr;have HB5:=Lib.hid hb5;have HG5:=Lib.hid hgr;clear hb5 hgr hb4;try go_frame))
    go_ret
    exact⟨((zaX HB1.out none).but _).trans ((HGR.out.trans ((zaX HBD.out none).but _)).trans HG5.out),.inr ⟨_,_,_,_,_,_,_,HR.out,rfl,HBY.out,HB5.out,(HG.out.1.grown (zaX HBD.out none) (.inl rfl)).grown HG5.out (.inr rfl),(HG.out.2.1.grown (zaX HBD.out none) (.inl rfl)).grown HG5.out (.inr rfl),(HG.out.2.2.grown (zaX HBD.out none) (.inl rfl)).grown HG5.out (.inr rfl)⟩⟩
theorem sizeKey:(Tryz.prog.info? 41).map (·.size)=some 2:=by kernel_rfl
def FindTells (w:World) (ob:Nat) (front:List Value) (r:Option KeyM) (e:Ending) (w':World):Prop:=
 w.grownBy w' (some ob)∧((r=none∧e= .returned (.bool false))∨ ∃k,r=some k∧e= .returned (.bool true)∧Blk w' ob 65 (front++[.string k.1,.string k.2]))
theorem find_drop (p:KeyM→Bool) (ks:List KeyM) {i:Nat} (h:i<ks.length):(ks.drop i).find? p=if p ks[i]=true then some ks[i]else(ks.drop (i+1)).find? p:=by
 rw[List.drop_eq_getElem_cons h,List.find?_cons]
 cases p ks[i]<;>rfl
theorem findKey_any (j:J) (ks:List KeyM) (A:Option Addr) (n c:Nat) (ob:Nat) (c0 c1 c2 c3 h0 h1 h2 h3 h4 k0 k1:Value) (w:World) (hbk:Blk w ob 65 [c0,c1,c2,c3,h0,h1,h2,h3,h4,k0,k1]) (hj:RepS w (fun b=>b≠ob) j (.agg #[h0,h1,h2,h3,h4])) (hsm: ∀x∈j.l,Sm x)
  (hn:ks.length=n) (hn9:n≤1000000) (hk:KeyOk ks) (hr:RingAt w A ks):
  Calls Tryz.prog 36 #[.pointer (some ⟨ob,0,none⟩),.slice A n c] w (FindTells w ob [c0,c1,c2,c3,h0,h1,h2,h3,h4] (ks.find? fun k=>sayB j sKid k.1)):=by
 have hob:=hbk.lt
 have HBK:=Lib.hid hbk
 have HJ:=Lib.hid hj
 have HSM:=Lib.hid hsm
 have HN:=Lib.hid hn
 have HK:=Lib.hid hk
 have HR:=Lib.hid hr
 obtain⟨R,hR⟩: ∃R,R=(ks.find? fun k=>sayB j sKid k.1):=⟨_,rfl⟩
 rw[←hR]
 have HRR:=Lib.hid hR
 clear hbk hj hsm hn hk hr hR
 go_enter Tryz.func36,Tryz.ntmps36
 go_wp2
 go_loopw[9] (fun i wr=> ∃k:Nat,k≤n∧i= .int .i64 (k:Int)∧R=((ks.drop k).find? fun k=>sayB j sKid k.1)∧Below w.heap.size w wr) (fun i _=>n-(intOf i).toNat)
 case atStart=>exact⟨0,Nat.zero_le _,rfl,by rw[HRR.out];rfl,Below.refl _ _⟩
 case round=>
  obtain⟨k,hk,rfl,hrun,hbel⟩:=hrel
  have HBE:=Lib.hid hbel
  have HRUN:=Lib.hid hrun
  clear hbel hrun
  by_cases hlt2:k<n
  ·have hkl:k<ks.length:=by rw[HN.out];exact hlt2
   obtain⟨b,o,rfl,_,x0,x1⟩:=(HR.out.below HBE.out).at hkl
   have HST:Hid (R=if sayB j sKid ks[k].1=true then some ks[k]else(ks.drop (k+1)).find? fun k=>sayB j sKid k.1):=Lib.hid (by rw[HRUN.out,find_drop _ ks hkl])
   have hsz:=(HK.out.get hkl).1
   obtain⟨q,hq⟩: ∃q,q=ks[k]:=⟨_,rfl⟩
   rw[←hq]at x0 x1 HST hsz
   obtain⟨q1,q2⟩:=q
   have hb2:Below wr.heap.size wr (wr.alloc (.cells #[.string q1,.string q2] 41)):=zad _ _
   have HSAY:=Lib.hid (zmt j ob c0 c1 c2 c3 h0 h1 h2 h3 h4 [k0,k1] sKid q1 (wr.alloc (.cells #[.string q1,.string q2] 41)) ((HBK.out.below HBE.out hob).below hb2 (Nat.lt_of_lt_of_le hob HBE.out.size)) (RepJ.below hb2 _ _ (RepJ.below HBE.out _ _ (RepS.toJ _ _ HJ.out))) HSM.out hsz)
   have HB2:=Lib.hid hb2
   obtain⟨bb,hbb⟩: ∃bb,bb=sayB j sKid q1:=⟨_,rfl⟩
   rw[show sayB j sKid (q1,q2).1=bb from hbb.symm]at HST
   rw[←hbb]at HSAY
   have hi0:(0:Int)≤(k:Int):=by omega
   have hi1:(k:Int)<(n:Int):=by omega
   have y0:(wr.alloc (.cells #[.string q1,.string q2] 41)).cell? ⟨wr.heap.size,0,none⟩=some (.string q1):=by simp
   have y1:(wr.alloc (.cells #[.string q1,.string q2] 41)).cell? ⟨wr.heap.size,1,none⟩=some (.string q2):=by simp
   clear hq hkl hbb hsz hb2
   go_wp2_with fail
   rw[show(⟨#[107,105,100]⟩:ByteArray)=sKid from rfl]
   refine HSAY.out.mono ?_
   rintro e w3 ⟨rfl,hb⟩
   have HB3:=Lib.hid (HBE.out.trans ((HB2.out.trans (hb.mono HB2.out.size)).mono HBE.out.size))
   cases bb with
   |true=>
    have z0:=(hb.cell (zaa y0)).trans y0
    have z1:=(hb.cell (zaa y1)).trans y1
    have hb3:=HBK.out.below HB3.out hob
    have HF:Hid (R=some (q1,q2)):=Lib.hid (by rw[HST.out,if_pos rfl])
    clear hb y0 y1
    go_wp2_with(refine zac rfl none rfl _ (.tmp 20) (.tmp 18) rfl ob 9 [.string q1,.string q2] rfl rfl _ _ hb3 (by simp) sizeKey (by intro v hv;simp at hv;rcases hv with rfl|rfl<;>rfl) ?_;intro w4 hb4 hgr;have HB4:=Lib.hid hb4;have HG4:=Lib.hid hgr;clear hb4 hgr;try go_frame)
    go_ret
    exact⟨((zaX HB3.out none).but _).trans HG4.out,.inr ⟨_,HF.out,rfl,HB4.out⟩⟩
   |false=>
    clear hb y0 y1
    go_wp2
    go_roundw
    case rel=>exact⟨k+1,by omega,by go_num,by rw[HST.out,if_neg (by decide)],HB3.out⟩
    case measure=>simp[intOf];omega
  ·obtain rfl:k=n:=by omega
   have hi1: ¬(k:Int)<(k:Int):=by omega
   go_wp2
   go_ret
   exact⟨(zaX HBE.out none).but _,.inl ⟨by rw[HRUN.out,List.drop_of_length_le (Nat.le_of_eq HN.out)];rfl,rfl⟩⟩
theorem isTagged_any (ob:Nat) (body kid sec:ByteArray) (v1 v2 h0 h1 h2 h3 h4:Value) (A3:Option Addr) (n c:Nat) (T:List Int) (w:World) (hbk:Blk w ob 65 [.string body,v1,v2,.slice A3 n c,h0,h1,h2,h3,h4,.string kid,.string sec]) (hn:T.length=n) (hn9:n≤1000000) (hT:Bytes T) (hl:Lies w A3 T)
  (hs:sec.size≤1000000) (hb:body.size≤1000000) (ht:Tabs w):
  Calls Tryz.prog 37 #[.pointer (some ⟨ob,0,none⟩)] w fun e w'=>e= .returned (.bool (decide (macL (strL sec) (strL body)=T)))∧Below w.heap.size w w':=by
 have hob:=hbk.lt
 have HTAG:=Lib.hid (fun(W:World) (hW:Below w.heap.size w W)=>tag_any kid sec body W hs hb (ht.below hW))
 have HL:Hid ((macL (strL sec) (strL body)).length=32):=Lib.hid (zap _)
 have HBY:Hid (Bytes (macL (strL sec) (strL body))):=Lib.hid (zbv _)
 obtain⟨D,hD⟩: ∃D,D=macL (strL sec) (strL body):=⟨_,rfl⟩
 rw[←hD]at HTAG HL HBY⊢
 have HSAME:=Lib.hid (fun(W:World) (g:Nat) (h:Blk W g 82 (ints .u8 D)) (hW:Below w.heap.size w W)=>by
  have:=shaSame_any (some ⟨g,0,none⟩) A3 32 c D T W (by rw[HL.out];decide) (by rw[hn];omega) HBY.out hT (Lies.whole h) (hl.below hW)
  rw[HL.out,hn]at this
  refine this.mono (R':=fun e w'=>e= .returned (.bool (decide (D=T)))∧Below w.heap.size w w') ?_
  rintro e w' ⟨rfl,k,rfl⟩
  exact⟨rfl,zaw hW k⟩)
 have hsw:=fun(g:Nat)=>zbQ (P:=Tryz.prog) 82 5 32 Tryz.underlying82 s5 g 0 (by omega)
 obtain⟨r,hr⟩: ∃r,r=decide (D=T):=⟨_,rfl⟩
 rw[←hr]at HSAME⊢
 have x0:w.cell? ⟨ob,0,none⟩=some (.string body):=hbk.cell 0
 have x1:w.cell? ⟨ob,9,none⟩=some (.string kid):=hbk.cell 9
 have x2:w.cell? ⟨ob,10,none⟩=some (.string sec):=hbk.cell 10
 have x3:w.cell? ⟨ob,3,none⟩=some (.slice A3 n c):=hbk.cell 3
 have HSC:Hid (∀X,Below w.heap.size w X→X.cell? ⟨ob,0,none⟩=some (.string body)∧X.cell? ⟨ob,9,none⟩=some (.string kid)∧X.cell? ⟨ob,10,none⟩=some (.string sec)∧X.cell? ⟨ob,3,none⟩=some (.slice A3 n c)):=Lib.hid (fun X hX=>⟨(hX.cell (p:=⟨ob,0,none⟩) hob).trans x0,(hX.cell (p:=⟨ob,9,none⟩) hob).trans x1,(hX.cell (p:=⟨ob,10,none⟩) hob).trans x2,(hX.cell (p:=⟨ob,3,none⟩) hob).trans x3⟩)
 have HSL:Hid (∀X,Below w.heap.size w X→X.cell? ⟨ob,3,none⟩=some (.slice A3 n c)):=Lib.hid (fun X hX=>(hX.cell (p:=⟨ob,3,none⟩) hob).trans x3)
 have HB0:=Lib.hid (Below.refl w.heap.size w).drew
 clear hbk hl ht hD hr hT hs hb x0 x1 x2 x3
 go_enter Tryz.func37,Tryz.ntmps37
 go_wp2_with fail
 refine wp_region_held_drew (S:=fun X=>X.cell? ⟨ob,0,none⟩=some (.string body)∧X.cell? ⟨ob,9,none⟩=some (.string kid)∧X.cell? ⟨ob,10,none⟩=some (.string sec)∧X.cell? ⟨ob,3,none⟩=some (.slice A3 n c)) (by kernel_rfl) (HSC.out _ HB0.out) (fun hHeld=> ?_)
 refine rgT 0 ?_
 try simp only[rgS]
 refine rgT 1 ?_
 try simp only[rgS]
 refine rgT 2 ?_
 try simp only[rgS]
 refine rgT 3 ?_
 try simp only[rgS]
 refine rgT 4 ?_
 try simp only[rgS]
 refine rgT 5 ?_
 try simp only[rgS]
 refine rgT 6 ?_
 try simp only[rgS]
 refine rgT 7 ?_
 try simp only[rgS]
 refine wpAnyH_ready (rs:=[8,9]) (by kernel_rfl) (by simp) ?_
 refine AllReadyH.cons rfl (fun K hK=> ?_) (AllReadyH.cons rfl (fun K hK=> ?_) AllReadyH.nil)
 ·go_simp
  go_at_call 53
  (with_reducible refine(HTAG.out _ HB0.out).mono ?_)
  rintro e wC ⟨rfl,hb⟩
  have HBA:=Lib.hid (HB0.out.trans (hb.mono HB0.out.size))
  refine hK.out _ _ (HSC.out _ HBA.out) (fun hH1=> ?_)
  clear hK K hb
  try simp only[rgS]
  refine rgO 9 (fun K hK=> ?_)
  rw[if_pos (by kernel_rfl)]
  refine ziK 82 (ints .u8 (List.replicate 32 0)) rfl z24 ?_
  intro g wB hg hbg hgr
  have HBB:=Lib.hid (HBA.out.grown hgr HBA.out.size (fun b e=>by cases e))
  have h8B:w.heap.size≤g:=Nat.le_trans HBA.out.size hg
  have HBD:=HBB
  refine hK.out _ _ (HSC.out _ HBB.out) (fun hH2=> ?_)
  clear hK K hgr hg
  try simp only[rgS]
  refine rgO 10 (fun K hK=> ?_)
  rw[if_pos (by kernel_rfl)]
  refine zfh 82 (.tmp 3) (.tmp 12) rfl g 0 (ints .u8 D) rfl rfl _ _ hbg (by simp[HL.out]) (by rw[s24,length_ints,HL.out]) (zal _ _) ?_
  intro wz hbz hgz
  rw[zah _ _ (by simp[HL.out])]at hbz
  have hbel:Below w.heap.size w wz:=HBD.out.grown hgz HBD.out.size (fun b e=>by injection e with e;omega)
  refine hK.out _ _ (HSC.out _ hbel) (fun hSx=> ?_)
  clear hK K hbg hgz
  have hbg:=hbz
  clear hbz
  try simp only[rgS]
  refine wpAnyH_done (by kernel_rfl) ?_ _
  have HBg:=Lib.hid hbg
  have HBE:=Lib.hid hbel
  obtain⟨q0,q1,q2,q3⟩:=hSx
  have q:=q3
  have HSM:=Lib.hid (HSAME.out wz.drew g hbg.drew hbel.drew)
  clear hbg hbel q0 q1 q2
  go_wp2_with fail
  refine wp_region_held_drew (S:=fun X=>X.cell? ⟨ob,3,none⟩=some (.slice A3 n c)) (by kernel_rfl) q (fun hHeld=> ?_)
  refine rgT 0 ?_
  try simp only[rgS]
  refine rgT 1 ?_
  try simp only[rgS]
  refine rgT 2 ?_
  try simp only[rgS]
  refine rgT 3 ?_
  try simp only[rgS]
  refine rgT 4 ?_
  try simp only[rgS]
  refine rgT 5 ?_
  try simp only[rgS]
  refine rgO 6 (fun K hK=> ?_)
  go_simp
  go_at_call 69
  (with_reducible refine HSM.out.mono ?_)
  rintro e wy ⟨rfl,hwy⟩
  have HWY:=Lib.hid (show Below w.heap.size w wy from hwy)
  refine hK.out _ _ (HSL.out _ HWY.out) (fun hH9=> ?_)
  clear hK K hwy
  try simp only[rgS]
  refine rgT 7 ?_
  try simp only[rgS]
  refine wpAnyH_done (by kernel_rfl) ?_ _
  go_wp2
  go_ret
  exact⟨rfl,HWY.out⟩
 ·rw[if_pos (by kernel_rfl)]
  refine ziK 82 (ints .u8 (List.replicate 32 0)) rfl z24 ?_
  intro g wB hg hbg hgr
  have h8B:w.heap.size≤g:=Nat.le_trans HB0.out.size hg
  have HBB:=Lib.hid (HB0.out.grown hgr HB0.out.size (fun b e=>by cases e))
  refine hK.out _ _ (HSC.out _ HBB.out) (fun hH1=> ?_)
  clear hK K hgr hg
  try simp only[rgS]
  refine rgO 8 (fun K hK=> ?_)
  go_simp
  go_at_call 53
  (with_reducible refine(HTAG.out _ HBB.out).mono ?_)
  rintro e wC ⟨rfl,hb⟩
  have HBD:=Lib.hid (HBB.out.trans (hb.mono HBB.out.size))
  have hbg:=hbg.below hb hbg.lt
  refine hK.out _ _ (HSC.out _ HBD.out) (fun hH2=> ?_)
  clear hK K hb
  try simp only[rgS]
  refine rgO 10 (fun K hK=> ?_)
  rw[if_pos (by kernel_rfl)]
  refine zfh 82 (.tmp 3) (.tmp 12) rfl g 0 (ints .u8 D) rfl rfl _ _ hbg (by simp[HL.out]) (by rw[s24,length_ints,HL.out]) (zal _ _) ?_
  intro wz hbz hgz
  rw[zah _ _ (by simp[HL.out])]at hbz
  have hbel:Below w.heap.size w wz:=HBD.out.grown hgz HBD.out.size (fun b e=>by injection e with e;omega)
  refine hK.out _ _ (HSC.out _ hbel) (fun hSx=> ?_)
  clear hK K hbg hgz
  have hbg:=hbz
  clear hbz
  try simp only[rgS]
  refine wpAnyH_done (by kernel_rfl) ?_ _
  have HBg:=Lib.hid hbg
  have HBE:=Lib.hid hbel
  obtain⟨q0,q1,q2,q3⟩:=hSx
  have q:=q3
  have HSM:=Lib.hid (HSAME.out wz.drew g hbg.drew hbel.drew)
  clear hbg hbel q0 q1 q2
  go_wp2_with fail
  refine wp_region_held_drew (S:=fun X=>X.cell? ⟨ob,3,none⟩=some (.slice A3 n c)) (by kernel_rfl) q (fun hHeld=> ?_)
  refine rgT 0 ?_
  try simp only[rgS]
  refine rgT 1 ?_
  try simp only[rgS]
  refine rgT 2 ?_
  try simp only[rgS]
  refine rgT 3 ?_
  try simp only[rgS]
  refine rgT 4 ?_
  try simp only[rgS]
  refine rgT 5 ?_
  try simp only[rgS]
  refine rgO 6 (fun K hK=> ?_)
  go_simp
  go_at_call 69
  (with_reducible refine HSM.out.mono ?_)
  rintro e wy ⟨rfl,hwy⟩
  have HWY:=Lib.hid (show Below w.heap.size w wy from hwy)
  refine hK.out _ _ (HSL.out _ HWY.out) (fun hH9=> ?_)
  clear hK K hwy
  try simp only[rgS]
  refine rgT 7 ?_
  try simp only[rgS]
  refine wpAnyH_done (by kernel_rfl) ?_ _
  go_wp2
  go_ret
  exact⟨rfl,HWY.out⟩
end Go.Proofs.YtceddodfddlncaaGreatDoor
