
import Derived.Test.YtjfgmgkhinehaaaGreatDoorCf01
import Derived.Test.YtjfgmgkhinehaaaGreatDoorCf04
import Derived.Test.YtjfgmgkhinehaaaGreatDoorCf07
import Derived.Test.YtjfgmgkhinehaaaGreatDoorCf26
import Derived.Test.YtjfgmgkhinehaaaGreatDoorCf34
import Derived.Test.YtjfgmgkhinehaaaGreatDoorCf38
import Derived.Test.YtjfgmgkhinehaaaGreatDoorCf40
import Derived.Test.YtjfgmgkhinehaaaGreatDoorCb08
import Derived.Test.YtjfgmgkhinehaaaGreatDoorCb10
set_option linter.all false
namespace Go.Proofs.YtjfgmgkhinehaaaGreatDoor
open Go
def Fits (j:J) (left:Int) (d:Nat):Prop:=(szJ j:Int)≤left∧dpJ j≤d
def VB (l:List Int) (e d:Nat) (left:Int) (j:J) (r:VR):Prop:=(Fits j left d→r=(j,skipL l e,left-(szJ j:Int),0))∧(¬Fits j left d→r.2.2.2≠0)
theorem VB.bad {l:List Int} {e d:Nat} {left:Int} {j:J} {r:VR} (h: ¬Fits j left d) (hr:r.2.2.2≠0):VB l e d left j r:=⟨fun hf=>absurd hf h,fun _=>hr⟩
theorem VB.good {l:List Int} {e d:Nat} {left:Int} {j:J} {r:VR} (h:Fits j left d) (hr:r=(j,skipL l e,left-(szJ j:Int),0)):VB l e d left j r:=⟨fun _=>hr,fun hn=>absurd h hn⟩
def Reads (l:List Int) (d:Nat) (j:J) (val:Nat→Int→VR):Prop:= ∀(i:Nat) (left:Int),0≤left→At l i (textL j)→isD (atL l (i+(textL j).length))=false→VB l (i+(textL j).length) d left j (val i left)
theorem utf_of {s:ByteArray} (h:utfS s=true):badU (strL s)=(strL s).length:=by unfold utfS at h;exact of_decide_eq_true h
theorem text_first {j:J} (h:Rt j): ∃c r,textL j=c::r∧beginsV c=true:=by
 cases h with
 |mk kind n s l k a1 a2 a3 a4=>
  rw[textL]
  by_cases h0:kind=0
  ·rw[if_pos h0];exact⟨_,_,rfl,by decide⟩
  rw[if_neg h0]
  by_cases h1:kind=1
  ·rw[if_pos h1];split
   ·exact⟨_,_,rfl,by decide⟩
   ·exact⟨_,_,rfl,by decide⟩
  rw[if_neg h1]
  by_cases h2:kind=2
  ·rw[if_pos h2]
   have hd: ∀m:Nat,∃c r,digL m=c::r∧48≤c∧c≤57:=fun m=>by
    cases hm:digL m with
    |nil=>exact absurd hm (digL_ne m)
    |cons c r=>exact⟨c,r,rfl,digL_digits m c (by rw[hm];simp)⟩
   unfold prL
   split
   ·exact⟨_,_,rfl,by decide⟩
   ·obtain⟨c,r,e,x,y⟩:=hd n.natAbs
    exact⟨c,r,e,by unfold beginsV;rw[decide_eq_true_eq];omega⟩
  rw[if_neg h2]
  by_cases h3:kind=3
  ·rw[if_pos h3,quoteL_is];exact⟨_,_,rfl,by decide⟩
  rw[if_neg h3]
  by_cases h4:kind=4
  ·rw[if_pos h4];exact⟨91,itemsL false true l k++[93],rfl,by decide⟩
  rw[if_neg h4]
  rcases a3 with a|a|a
  ·exact absurd a h4
  ·rw[if_pos a];exact⟨123,itemsL true true l k++[125],rfl,by decide⟩
  ·rcases leaf_kind a with a|a|a|a
   ·exact absurd a h0
   ·exact absurd a h1
   ·exact absurd a h2
   ·exact absurd a h3
theorem begins_facts {c:Int} (h:beginsV c=true): ¬isB c=true∧c≠93∧c≠125∧c≠44∧c≠58∧0≤c:=by
 unfold beginsV at h
 unfold isB
 rw[decide_eq_true_eq]at h⊢
 omega
theorem noB_of {c:Int} (h:c=44∨c=93∨c=125∨c=58∨c=34): ¬isB c=true:=by unfold isB;rw[decide_eq_true_eq];omega
theorem noD_of {c:Int} (h:c=44∨c=93∨c=125∨c= -1∨c=32∨c=9∨c=10∨c=13):isD c=false:=isD_false.2 (by omega)
theorem text_at {l:List Int} {j:J} {i:Nat} (h:Rt j) (ha:At l i (textL j)):beginsV (atL l i)=true:=by
 obtain⟨c,r,e,hb⟩:=text_first h
 rw[e]at ha
 rw[ha.one.1];exact hb
theorem items_next (rest:List J) (k:List ByteArray): ∃c r,itemsL false false rest k++[93]=c::r∧(c=44∨c=93):=by
 cases rest with
 |nil=>exact⟨93,[],by rw[itemsL];rfl,.inr rfl⟩
 |cons x r=>rw[itemsL,if_neg (by simp)];exact⟨_,_,rfl,.inl rfl⟩
theorem many_back (l:List Int) (d:Nat) (val:Nat→Int→VR): ∀(rest:List J),(∀x∈rest,Rt x∧Reads l d x val)→ ∀(f:Nat) (first:Bool) (i:Nat) (left:Int) (vs:List J) (k:List ByteArray),0≤left→rest.length<f→At l i (itemsL false first rest k++[93])→
  ((szLs rest:Int)≤left∧dpLs rest≤d→manyGo l val false f first i left [] vs=(.mk 4 0 ⟨#[]⟩ (vs++rest) [],skipL l (i+(itemsL false first rest k).length+1),left-(szLs rest:Int),0))∧
  (¬((szLs rest:Int)≤left∧dpLs rest≤d)→(manyGo l val false f first i left [] vs).2.2.2≠0)
 |_,_,0,_,_,_,_,_,_,hf,_=>absurd hf (Nat.not_lt_zero _)
 |[],_,f+1,first,i,left,vs,k,h0,_,ha=>by
  rw[itemsL]at ha⊢
  obtain⟨h93,_⟩:=At.one (r:=[]) ha
  rw[manyGo,if_pos (by simpa using h93),szLs,dpLs,List.append_nil]
  exact⟨fun _=>by simp,fun h=>absurd ⟨by simpa using h0,Nat.zero_le _⟩ h⟩
 |x::r,hall,f+1,first,i,left,vs,k,h0,hf,ha=>by
  obtain⟨hx,hrd⟩:=hall x (by simp)
  obtain⟨cn,rn,hn,hcn⟩:=items_next r k.tail
  have hitem: ∀a:Nat,At l a (textL x++(itemsL false false r k.tail++[93]))→
    ((szLs (x::r):Int)≤left∧dpLs (x::r)≤d→itemL l val false (manyGo l val false f false) a left ⟨#[]⟩ [] vs=(.mk 4 0 ⟨#[]⟩ (vs++x::r) [],skipL l (a+(textL x).length+(itemsL false false r k.tail).length+1),left-(szLs (x::r):Int),0))∧
    (¬((szLs (x::r):Int)≤left∧dpLs (x::r)≤d)→(itemL l val false (manyGo l val false f false) a left ⟨#[]⟩ [] vs).2.2.2≠0):=fun a hat=>by
   obtain⟨hat1,hat2⟩:=At.app.1 hat
   have hnext:=hat2
   rw[hn]at hnext
   have hc:=hnext.one.1
   have hv:=hrd a left h0 hat1 (noD_of (by rw[hc];omega))
   rw[szLs,dpLs]
   by_cases hfit:Fits x left d
   ·have e:=hv.1 hfit
    have hsk:skipL l (a+(textL x).length)=a+(textL x).length:=skipL_stop (noB_of (by rw[hc];omega))
    obtain⟨f1,f2⟩:=hfit
    have ih:=many_back l d val r (fun y hy=>hall y (List.mem_cons_of_mem _ hy)) f false (a+(textL x).length) (left-(szJ x:Int)) (vs++[x]) k.tail (by omega) (by simp at hf;omega) hat2
    have e2:itemL l val false (manyGo l val false f false) a left ⟨#[]⟩ [] vs=manyGo l val false f false (a+(textL x).length) (left-(szJ x:Int)) [] (vs++[x]):=by
     unfold itemL
     rw[e,if_neg (by simp),hsk,if_neg (by simp only[Bool.false_eq_true,if_false];omega),if_neg (by simp)]
    rw[e2]
    refine⟨fun h=> ?_,fun h=>ih.2 fun hh=>h ⟨by omega,by omega⟩⟩
    rw[ih.1 ⟨by omega,by omega⟩,List.append_assoc]
    congr 3
    omega
   ·have e:=hv.2 hfit
    refine⟨fun h=>absurd ⟨by omega,by omega⟩ hfit,fun _=> ?_⟩
    unfold itemL
    rw[if_pos e];exact e
  cases first with
  |true=>
   rw[itemsL,if_pos rfl,if_neg (by simp),List.nil_append,List.nil_append]at ha⊢
   rw[List.append_assoc]at ha
   have hb:=begins_facts (text_at hx (At.app.1 ha).1)
   rw[manyGo,if_neg (by simp;omega),if_pos rfl]
   unfold membL
   rw[if_neg (by simp)]
   have:=hitem i ha
   rwa [List.length_append,←Nat.add_assoc]
  |false=>
   rw[itemsL,if_neg (by simp),if_neg (by simp),List.nil_append,List.append_assoc]at ha
   rw[itemsL,if_neg (by simp),if_neg (by simp),List.nil_append]
   obtain⟨h44,ha2⟩:=At.one (r:=textL x++itemsL false false r k.tail++[93]) ha
   rw[List.append_assoc]at ha2
   have hb:=begins_facts (text_at hx (At.app.1 ha2).1)
   have hsk:skipL l (i+1)=i+1:=skipL_stop hb.1
   rw[manyGo,if_neg (by simp;omega),if_neg (by simp),if_neg (by omega),hsk]
   unfold membL
   rw[if_neg (by simp)]
   have:=hitem (i+1) ha2
   have hl:([44]++(textL x++itemsL false false r k.tail):List Int).length=1+(textL x).length+(itemsL false false r k.tail).length:=by simp;omega
   rwa [hl,←Nat.add_assoc,←Nat.add_assoc]
def MemT (l:List Int) (d:Nat) (val:Nat→Int→VR):Bool→Nat→List (ByteArray×J)→Nat→Prop
 |_,i,[],e=>i=e∧atL l e=125
 |first,i,(t,x)::r,e=> ∃i1 i2,(if first=true then i1=i else atL l i=44∧i1=skipL l (i+1))∧utfS t=true∧At l i1 (quoteL (strL t))∧atL l (skipL l (i1+(quoteL (strL t)).length))=58∧
   i2=skipL l (skipL l (i1+(quoteL (strL t)).length)+1)∧Reads l d x val∧At l i2 (textL x)∧isD (atL l (i2+(textL x).length))=false∧MemT l d val false (skipL l (i2+(textL x).length)) r e
theorem MemT.next {l:List Int} {d:Nat} {val:Nat→Int→VR} {i e:Nat} {ms:List (ByteArray×J)} (h:MemT l d val false i ms e):atL l i=44∨atL l i=125:=by
 cases ms with
 |nil=>obtain⟨rfl,h⟩:=h;exact .inr h
 |cons m r=>obtain⟨i1,i2,h,_⟩:=h;rw[if_neg (by simp)]at h;exact .inl h.1
theorem toS_quoted {t:ByteArray} {l:List Int} {i:Nat} (hu:utfS t=true) (h:At l i (quoteL (strL t))):quotedL l i=(strL t,i+(quoteL (strL t)).length,0):=quoted_at (strL_bd t) (utf_of hu) h
def putsF (ms:List (ByteArray×J)) (a:List ByteArray×List J):List ByteArray×List J:=ms.foldl (fun a m=>putKL m.1 m.2 false a.1 a.2) a
theorem obj_back (l:List Int) (d:Nat) (val:Nat→Int→VR): ∀(ms:List (ByteArray×J)) (f:Nat) (first:Bool) (i e:Nat) (left:Int) (ks:List ByteArray) (vs:List J),MemT l d val first i ms e→(first=true→ms≠[]→atL l i=34)→ms.length<f→0≤left→(∀m∈ms,hasK ks m.1=false)→(ms.map Prod.fst).Nodup→
  ((szLs (ms.map Prod.snd):Int)≤left∧dpLs (ms.map Prod.snd)≤d→manyGo l val true f first i left ks vs=(.mk 5 0 ⟨#[]⟩ (putsF ms (ks,vs)).2 (putsF ms (ks,vs)).1,skipL l (e+1),left-(szLs (ms.map Prod.snd):Int),0))∧
  (¬((szLs (ms.map Prod.snd):Int)≤left∧dpLs (ms.map Prod.snd)≤d)→(manyGo l val true f first i left ks vs).2.2.2≠0)
 |_,0,_,_,_,_,_,_,_,_,hf,_,_,_=>absurd hf (Nat.not_lt_zero _)
 |[],f+1,first,i,e,left,ks,vs,hm,_,_,h0,_,_=>by
  obtain⟨rfl,h125⟩:=hm
  rw[manyGo,if_pos (by simpa using h125),List.map_nil,szLs,dpLs]
  exact⟨fun _=>by simp[putsF],fun h=>absurd ⟨by simpa using h0,Nat.zero_le _⟩ h⟩
 |(t,x)::r,f+1,first,i,e,left,ks,vs,hm,h34,hf,h0,hks,hnd=>by
  obtain⟨i1,i2,hi1,hu,hq,h58,hi2,hrd,hat,hnd2,hrest⟩:=hm
  have hqt:=toS_quoted hu hq
  have hh:hasK ks t=false:=hks (t,x) (by simp)
  rw[List.map_cons,List.nodup_cons]at hnd
  have hv:=hrd i2 left h0 hat hnd2
  have hnx:=hrest.next
  rw[show((t,x)::r).map Prod.snd=x::r.map Prod.snd from rfl]
  have hmemb:((szLs (x::r.map Prod.snd):Int)≤left∧dpLs (x::r.map Prod.snd)≤d→membL l val true (manyGo l val true f false) i1 left ks vs=(.mk 5 0 ⟨#[]⟩ (putsF ((t,x)::r) (ks,vs)).2 (putsF ((t,x)::r) (ks,vs)).1,skipL l (e+1),left-(szLs (x::r.map Prod.snd):Int),0))∧
    (¬((szLs (x::r.map Prod.snd):Int)≤left∧dpLs (x::r.map Prod.snd)≤d)→(membL l val true (manyGo l val true f false) i1 left ks vs).2.2.2≠0):=by
   have e1:membL l val true (manyGo l val true f false) i1 left ks vs=itemL l val true (manyGo l val true f false) i2 left t ks vs:=by
    unfold membL
    rw[hqt,if_pos rfl,if_neg (by simp)]
    simp only[]
    rw[toS_strL,hh,if_neg (by simp),if_neg (fun h=>h h58),←hi2]
   rw[e1,szLs,dpLs]
   by_cases hfit:Fits x left d
   ·have e2:=hv.1 hfit
    obtain⟨f1,f2⟩:=hfit
    have hks2: ∀m∈r,hasK (putKL t x false ks vs).1 m.1=false:=fun m hm=>by
     rw[hasK_put,if_neg (fun e=>hnd.1 (by rw[show(t,x).1=m.1 from e];exact List.mem_map_of_mem hm))]
     exact hks m (List.mem_cons_of_mem _ hm)
    have ih:=obj_back l d val r f false (skipL l (i2+(textL x).length)) e (left-(szJ x:Int)) (putKL t x false ks vs).1 (putKL t x false ks vs).2 hrest (fun h=>by cases h) (by simp at hf;omega) (by omega) hks2 hnd.2
    have e3:itemL l val true (manyGo l val true f false) i2 left t ks vs=manyGo l val true f false (skipL l (i2+(textL x).length)) (left-(szJ x:Int)) (putKL t x false ks vs).1 (putKL t x false ks vs).2:=by
     unfold itemL
     rw[e2,if_neg (by simp),if_neg (by simp only[if_true];omega),if_pos rfl]
    rw[e3]
    refine⟨fun h=> ?_,fun h=>ih.2 fun hh=>h ⟨by omega,by omega⟩⟩
    rw[ih.1 ⟨by omega,by omega⟩]
    have e4:putsF ((t,x)::r) (ks,vs)=putsF r ((putKL t x false ks vs).1,(putKL t x false ks vs).2):=rfl
    rw[e4]
    congr 3
    omega
   ·have e2:=hv.2 hfit
    refine⟨fun h=>absurd ⟨by omega,by omega⟩ hfit,fun _=> ?_⟩
    unfold itemL
    rw[if_pos e2];exact e2
  cases first with
  |true=>
   rw[if_pos rfl]at hi1
   subst hi1
   have:=h34 rfl (by simp)
   rw[manyGo,if_neg (by simp;omega),if_pos rfl]
   exact hmemb
  |false=>
   rw[if_neg (by simp)]at hi1
   obtain⟨h44,rfl⟩:=hi1
   rw[manyGo,if_neg (by simp;omega),if_neg (by simp),if_neg (by omega)]
   exact hmemb
end Go.Proofs.YtjfgmgkhinehaaaGreatDoor
namespace Go.Proofs.YtjfgmgkhinehaaaGreatDoor
open Go
theorem rnL_pair: ∀(k:List ByteArray) (p:Option ByteArray),rnL p k=true→k.Pairwise (fun a b=>Op.bytesLess a.toList b.toList=true)∧(∀q,p=some q→ ∀t∈k,Op.bytesLess q.toList t.toList=true)∧ ∀t∈k,utfS t=true
 |[],p,_=>⟨List.Pairwise.nil,fun _ _ t ht=>(by cases ht),fun t ht=>(by cases ht)⟩
 |t::r,p,h=>by
  rw[rnL_cons,Bool.and_eq_true,Bool.and_eq_true]at h
  obtain⟨⟨h1,h2⟩,h3⟩:=h
  obtain⟨i1,i2,i3⟩:=rnL_pair r (some t) h3
  refine⟨List.pairwise_cons.2 ⟨fun y hy=>i2 t rfl y hy,i1⟩,fun q hq y hy=> ?_,fun y hy=> ?_⟩
  ·subst hq
   rcases List.mem_cons.1 hy with rfl|hy
   ·exact h2
   ·exact less_trans _ _ _ h2 (i2 t rfl y hy)
  ·rcases List.mem_cons.1 hy with rfl|hy
   ·exact h1
   ·exact i3 y hy
theorem zip_rises {k:List ByteArray} {ls:List J} (hl:k.length=ls.length) (h:rnL none k=true):Rises (k.zip ls)∧((k.zip ls).map Prod.fst).Nodup∧(k.zip ls).map Prod.fst=k∧(k.zip ls).map Prod.snd=ls:=by
 have e1:(k.zip ls).map Prod.fst=k:=List.map_fst_zip (by omega)
 have e2:(k.zip ls).map Prod.snd=ls:=List.map_snd_zip (by omega)
 obtain⟨h1,_,_⟩:=rnL_pair k none h
 refine⟨?_,?_,e1,e2⟩
 ·unfold Rises
  have:=h1
  rw[←e1]at this
  exact List.pairwise_map.1 this
 ·rw[e1]
  refine h1.imp fun {a b} hab e=> ?_
  subst e
  rw[less_self]at hab;cases hab
theorem mem_at (l:List Int) (d:Nat) (val:Nat→Int→VR): ∀(ls:List J) (k:List ByteArray),k.length=ls.length→(∀t∈k,utfS t=true)→(∀x∈ls,Rt x∧Reads l d x val)→ ∀(first:Bool) (i:Nat),At l i (itemsL true first ls k++[125])→
  MemT l d val first i (k.zip ls) (i+(itemsL true first ls k).length)∧(first=true→ls≠[]→atL l i=34)
 |[],k,hl,_,_,first,i,ha=>by
  obtain rfl:k=[]:=List.eq_nil_of_length_eq_zero hl
  rw[itemsL]at ha⊢
  exact⟨⟨rfl,(At.one (r:=[]) ha).1⟩,fun _ h=>absurd rfl h⟩
 |x::r,[],hl,_,_,_,_,_=>by cases hl
 |x::r,t::k,hl,hu,hall,first,i,ha=>by
  obtain⟨hx,hrd⟩:=hall x (by simp)
  obtain⟨cn,rn,hn,hcn⟩: ∃c q,itemsL true false r k++[125]=c::q∧(c=44∨c=125):=by
   cases r with
   |nil=>exact⟨125,[],by rw[itemsL];rfl,.inr rfl⟩
   |cons y r=>rw[itemsL,if_neg (by simp)];exact⟨_,_,rfl,.inl rfl⟩
  have main: ∀i1:Nat,At l i1 (quoteL (strL t)++([58]++(textL x++(itemsL true false r k++[125]))))→
    atL l i1=34∧At l i1 (quoteL (strL t))∧atL l (skipL l (i1+(quoteL (strL t)).length))=58∧ ∃i2,i2=skipL l (skipL l (i1+(quoteL (strL t)).length)+1)∧At l i2 (textL x)∧isD (atL l (i2+(textL x).length))=false∧MemT l d val false (skipL l (i2+(textL x).length)) (k.zip r) (i1+(quoteL (strL t)).length+1+(textL x).length+(itemsL true false r k).length):=fun i1 h=>by
   obtain⟨q1,q2⟩:=At.app.1 h
   obtain⟨q3,q4⟩:=At.one (r:=textL x++(itemsL true false r k++[125])) q2
   obtain⟨q5,q6⟩:=At.app.1 q4
   have hq0:=q1
   rw[quoteL_is]at hq0
   have s1:skipL l (i1+(quoteL (strL t)).length)=i1+(quoteL (strL t)).length:=skipL_stop (noB_of (by rw[q3];omega))
   have s2:skipL l (i1+(quoteL (strL t)).length+1)=i1+(quoteL (strL t)).length+1:=skipL_stop (begins_facts (text_at hx q5)).1
   have q7:=q6
   rw[hn]at q7
   have hc:=q7.one.1
   have s3:skipL l (i1+(quoteL (strL t)).length+1+(textL x).length)=i1+(quoteL (strL t)).length+1+(textL x).length:=skipL_stop (noB_of (by rw[hc];omega))
   refine⟨hq0.one.1,q1,by rw[s1];exact q3,_,rfl,?_⟩
   rw[s1,s2]
   refine⟨q5,noD_of (by rw[hc];omega),?_⟩
   rw[s3]
   exact(mem_at l d val r k (by simpa using hl) (fun y hy=>hu y (List.mem_cons_of_mem _ hy)) (fun y hy=>hall y (List.mem_cons_of_mem _ hy)) false _ q6).1
  rw[itemsL,if_pos rfl]at ha⊢
  simp only[List.headD_cons,List.tail_cons,List.append_assoc]at ha⊢
  cases first with
  |true=>
   rw[if_pos rfl,List.nil_append]at ha⊢
   obtain⟨m0,m1,m2,i2,m3,m4,m5,m6⟩:=main i ha
   refine⟨⟨i,i2,by rw[if_pos rfl],hu t (by simp),m1,m2,m3,hrd,m4,m5,?_⟩,fun _ _=>m0⟩
   have hl:(quoteL (strL t)++([58]++(textL x++itemsL true false r k)):List Int).length=(quoteL (strL t)).length+1+(textL x).length+(itemsL true false r k).length:=by simp;omega
   rwa [hl,←Nat.add_assoc,←Nat.add_assoc,←Nat.add_assoc]
  |false=>
   rw[if_neg (by simp)]at ha⊢
   obtain⟨h44,ha2⟩:=At.one (r:=quoteL (strL t)++([58]++(textL x++(itemsL true false r k++[125])))) ha
   obtain⟨m0,m1,m2,i2,m3,m4,m5,m6⟩:=main (i+1) ha2
   refine⟨⟨i+1,i2,by rw[if_neg (by simp)];exact⟨h44,(skipL_stop (noB_of (by rw[m0];omega))).symm⟩,hu t (by simp),m1,m2,m3,hrd,m4,m5,?_⟩,fun h=>by cases h⟩
   have hl:([44]++(quoteL (strL t)++([58]++(textL x++itemsL true false r k))):List Int).length=1+(quoteL (strL t)).length+1+(textL x).length+(itemsL true false r k).length:=by simp;omega
   rwa [hl,←Nat.add_assoc,←Nat.add_assoc,←Nat.add_assoc,←Nat.add_assoc]
theorem items_len (o:Bool): ∀(ls:List J) (f:Bool) (k:List ByteArray),(∀x∈ls,Rt x)→ls.length≤(itemsL o f ls k).length
 |[],_,_,_=>Nat.zero_le _
 |x::r,f,k,h=>by
  obtain⟨c,q,e,_⟩:=text_first (h x (by simp))
  have:=items_len o r false k.tail (fun y hy=>h y (List.mem_cons_of_mem _ hy))
  rw[itemsL,e]
  simp only[List.length_append,List.length_cons]
  omega
theorem prL_first (n:Int): ∃c r,prL n=c::r∧(c=45∨(48≤c∧c≤57)):=by
 have hd: ∀m:Nat,∃c r,digL m=c::r∧48≤c∧c≤57:=fun m=>by
  cases hm:digL m with
  |nil=>exact absurd hm (digL_ne m)
  |cons c r=>exact⟨c,r,rfl,digL_digits m c (by rw[hm];simp)⟩
 unfold prL
 split
 ·exact⟨_,_,rfl,.inl rfl⟩
 ·obtain⟨c,r,e,x,y⟩:=hd n.natAbs
  exact⟨c,r,e,.inr ⟨x,y⟩⟩
theorem skip_at {l:List Int} {i:Nat} {c:Int} (h:atL l i=c) (hc: ¬isB c=true):skipL l i=i:=skipL_stop (by rw[h];exact hc)
theorem value_back (j:J):Rt j→ ∀(l:List Int) (d:Nat),Reads l d j (valueL l d):=by
 induction j using J.ind with
 |h kind n s ls k ih=>
  intro hr l d i left h0 ha hnd
  have hb:=text_at hr ha
  cases hr with
  |mk _ _ _ _ _ a1 a2 a3 a4=>
  obtain⟨M,hM,hM0,hM1⟩: ∃M,valueL l d=valF l M∧(d=0→ ∀i left,(M i left).2.2.2≠0)∧(∀d',d=d'+1→M=manyL l (valueL l d')):=by
   cases d with
   |zero=>exact⟨_,valueL.eq_1 l,fun _ i left=>(by show(51:Int)≠0;decide),fun d' h=>(by cases h)⟩
   |succ d=>exact⟨_,valueL.eq_2 l d,fun h=>(by cases h),fun d' h=>by injection h with h;subst h;rfl⟩
  rw[hM]
  by_cases hleft:left-1<0
  ·refine VB.bad (fun h=>by have:=h.1;have:=szJ_pos (.mk kind n s ls k);omega) ?_
   unfold valF
   rw[if_neg (by rw[hb];simp),if_pos hleft]
   show(53:Int)≠0
   decide
  have leaf:kind≠4→kind≠5→ls=[]∧k=[]∧Fits (.mk kind n s ls k) left d∧(szJ (.mk kind n s ls k):Int)=1:=fun h4 h5=>by
   obtain⟨p,q⟩:=clean_l a1 h4 h5
   obtain rfl:=List.eq_nil_of_length_eq_zero p
   obtain rfl:=List.eq_nil_of_length_eq_zero q
   have e:szJ (.mk kind n s [] [])=1:=by rw[szJ,szLs]
   refine⟨rfl,rfl,⟨by rw[e];omega,?_⟩,by rw[e];rfl⟩
   rw[dpJ,if_neg (fun h=>h.elim h4 h5)];exact Nat.zero_le _
  have fin: ∀{j:J} {p q:Nat},p=q→((j,skipL l p,left-1,(0:Int)):VR)=(j,skipL l q,left-1,0):=fun h=>by rw[h]
  rcases a3 with a|a|a
  ·
   subst a
   obtain rfl:=clean_n a1 (by decide) (by decide)
   obtain rfl:=clean_s a1 (by decide)
   obtain rfl:k=[]:=List.eq_nil_of_length_eq_zero (clean_q a1 (by decide))
   have ht:textL (.mk 4 0 ⟨#[]⟩ ls [])=[91]++(itemsL false true ls []++[93]):=by rw[textL];rfl
   rw[ht]at ha
   obtain⟨h91,ha2⟩:=At.one (r:=itemsL false true ls []++[93]) ha
   have hval:valF l M i left=M i (left-1):=by
    unfold valF
    rw[h91,if_neg (by decide),if_neg hleft,if_neg (by decide),if_neg (by decide),if_neg (by decide),if_neg (by decide),if_neg (by decide)]
   rw[hval]
   cases d with
   |zero=>exact VB.bad (fun h=>by have:=h.2;rw[dpJ,if_pos (.inl rfl)]at this;omega) (hM0 rfl _ _)
   |succ d=>
    rw[hM1 d rfl]
    have hsk:skipL l (i+1)=i+1:=by
     cases ls with
     |nil=>exact skip_at (At.one (r:=[]) ha2).1 (by decide)
     |cons x r=>
      rw[itemsL,if_pos rfl,if_neg (by simp),List.nil_append,List.nil_append,List.append_assoc]at ha2
      exact skip_at rfl (begins_facts (text_at (a4 x (by simp)) (At.app.1 ha2).1)).1
    have hlen:=ha2.le (by simp)
    have hil:=items_len false ls true [] a4
    rw[List.length_append,List.length_singleton]at hlen
    have hmb:=many_back l d (valueL l d) ls (fun x hx=>⟨a4 x hx,ih x hx (a4 x hx) l d⟩) (l.length+1) true (i+1) (left-1) [] [] (by omega) (by omega) ha2
    have e1:manyL l (valueL l d) i (left-1)=manyGo l (valueL l d) false (l.length+1) true (i+1) (left-1) [] []:=by
     unfold manyL
     rw[h91,hsk];rfl
    rw[e1,ht]
    have hfit:Fits (.mk 4 0 ⟨#[]⟩ ls []) left (d+1)↔((szLs ls:Int)≤left-1∧dpLs ls≤d):=by
     unfold Fits
     rw[szJ,dpJ,if_pos (.inl rfl)]
     constructor<;>rintro⟨p,q⟩<;>exact⟨by omega,by omega⟩
    refine⟨fun h=> ?_,fun h=>hmb.2 (fun hh=>h (hfit.2 hh))⟩
    rw[hmb.1 (hfit.1 h),szJ,List.nil_append]
    rw[show i+1+(itemsL false true ls []).length+1=i+([91]++(itemsL false true ls []++[93])).length by simp;omega]
    congr 3
    omega
  ·
   subst a
   obtain rfl:=clean_n a1 (by decide) (by decide)
   obtain rfl:=clean_s a1 (by decide)
   obtain⟨hkl,hrn⟩:=a2 rfl
   obtain⟨hri,hnd2,hz1,hz2⟩:=zip_rises hkl hrn
   have ht:textL (.mk 5 0 ⟨#[]⟩ ls k)=[123]++(itemsL true true ls k++[125]):=by rw[textL];rfl
   rw[ht]at ha
   obtain⟨h123,ha2⟩:=At.one (r:=itemsL true true ls k++[125]) ha
   have hval:valF l M i left=M i (left-1):=by
    unfold valF
    rw[h123,if_neg (by decide),if_neg hleft,if_neg (by decide),if_neg (by decide),if_neg (by decide),if_neg (by decide),if_neg (by decide)]
   rw[hval]
   cases d with
   |zero=>exact VB.bad (fun h=>by have:=h.2;rw[dpJ,if_pos (.inr rfl)]at this;omega) (hM0 rfl _ _)
   |succ d=>
    rw[hM1 d rfl]
    obtain⟨hme,h34⟩:=mem_at l d (valueL l d) ls k hkl (rnL_pair k none hrn).2.2 (fun x hx=>⟨a4 x hx,ih x hx (a4 x hx) l d⟩) true (i+1) ha2
    have hsk:skipL l (i+1)=i+1:=by
     cases ls with
     |nil=>exact skip_at (At.one (r:=[]) ha2).1 (by decide)
     |cons x r=>exact skip_at (h34 rfl (by simp)) (by decide)
    have hlen:=ha2.le (by simp)
    have hil:=items_len true ls true k a4
    rw[List.length_append,List.length_singleton]at hlen
    have hmb:=obj_back l d (valueL l d) (k.zip ls) (l.length+1) true (i+1) _ (left-1) [] [] hme (fun _ hne=>h34 rfl (fun e=>hne (by rw[e];exact List.zip_nil_right))) (by rw[List.length_zip];omega) (by omega) (fun _ _=>rfl) hnd2
    have e1:manyL l (valueL l d) i (left-1)=manyGo l (valueL l d) true (l.length+1) true (i+1) (left-1) [] []:=by
     unfold manyL
     rw[h123,hsk];rfl
    have hpt:putsF (k.zip ls) ([],[])=(k,ls):=by
     have:=puts_of_rises hnd2 (List.Perm.refl _) hri
     rw[hz1,hz2]at this
     exact this
    rw[hz2,hpt]at hmb
    rw[e1,ht]
    have hfit:Fits (.mk 5 0 ⟨#[]⟩ ls k) left (d+1)↔((szLs ls:Int)≤left-1∧dpLs ls≤d):=by
     unfold Fits
     rw[szJ,dpJ,if_pos (.inr rfl)]
     constructor<;>rintro⟨p,q⟩<;>exact⟨by omega,by omega⟩
    refine⟨fun h=> ?_,fun h=>hmb.2 (fun hh=>h (hfit.2 hh))⟩
    rw[hmb.1 (hfit.1 h),szJ]
    rw[show i+1+(itemsL true true ls k).length+1=i+([123]++(itemsL true true ls k++[125])).length by simp;omega]
    congr 3
    omega
  ·have hk:=leaf_kind a
   obtain⟨e1,e2,hfit,hsz⟩:=leaf (by omega) (by omega)
   subst e1;subst e2
   refine VB.good hfit ?_
   rw[hsz]
   rcases hk with rfl|rfl|rfl|rfl
   ·obtain rfl:=clean_n a1 (by decide) (by decide)
    obtain rfl:=clean_s a1 (by decide)
    have ht:textL (.mk 0 0 ⟨#[]⟩ [] [])=[110,117,108,108]:=by rw[textL];rfl
    rw[ht]at ha⊢
    have hc:=ha.one.1
    unfold valF
    rw[hc,if_neg (by decide),if_neg hleft,if_neg (by decide),if_pos rfl,wordL_at _ _ ha]
    rfl
   ·obtain rfl:=clean_s a1 (by decide)
    have hn:n=0∨n=1:=by
     unfold leafR at a
     rw[if_neg (by decide),if_pos rfl,Bool.or_eq_true,decide_eq_true_eq,decide_eq_true_eq]at a
     exact a
    rcases hn with rfl|rfl
    ·have ht:textL (.mk 1 0 ⟨#[]⟩ [] [])=[102,97,108,115,101]:=by rw[textL];rfl
     rw[ht]at ha⊢
     have hc:=ha.one.1
     unfold valF
     rw[hc,if_neg (by decide),if_neg hleft,if_neg (by decide),if_neg (by decide),if_neg (by decide),if_pos rfl,wordL_at _ _ ha]
     rfl
    ·have ht:textL (.mk 1 1 ⟨#[]⟩ [] [])=[116,114,117,101]:=by rw[textL];rfl
     rw[ht]at ha⊢
     have hc:=ha.one.1
     unfold valF
     rw[hc,if_neg (by decide),if_neg hleft,if_neg (by decide),if_neg (by decide),if_pos rfl,wordL_at _ _ ha]
     rfl
   ·obtain rfl:=clean_s a1 (by decide)
    have hn: -9007199254740991≤n∧n≤9007199254740991:=by
     unfold leafR at a
     rw[if_neg (by decide),if_neg (by decide),if_pos rfl,Bool.and_eq_true,decide_eq_true_eq,decide_eq_true_eq]at a
     exact a
    have ht:textL (.mk 2 n ⟨#[]⟩ [] [])=prL n:=by rw[textL];rfl
    rw[ht]at ha hnd⊢
    obtain⟨l1,l2⟩:=lead_at ha (form_prL n) hnd
    obtain⟨c,r,e,hc⟩:=prL_first n
    have hpos:(prL n).length≠0:=by rw[e];simp
    have hat:atL l i=c:=by rw[e]at ha;exact ha.one.1
    unfold valF
    rw[if_neg (by rw[hb];simp),if_neg hleft,if_pos (by rw[hat];exact hc),l1,if_neg hpos,l2,numL_prL,if_pos (by unfold fitL;rw[numL_prL,decide_eq_true_eq];omega)]
   ·obtain rfl:=clean_n a1 (by decide) (by decide)
    have hu:utfS s=true:=by
     unfold leafR at a
     rw[if_neg (by decide),if_neg (by decide),if_neg (by decide),if_pos rfl]at a
     exact a
    have ht:textL (.mk 3 0 s [] [])=quoteL (strL s):=by rw[textL];rfl
    rw[ht]at ha⊢
    have hc:atL l i=34:=by rw[quoteL_is]at ha;exact ha.one.1
    unfold valF
    rw[hc,if_neg (by decide),if_neg hleft,if_neg (by decide),if_neg (by decide),if_neg (by decide),if_neg (by decide),if_pos rfl,toS_quoted hu ha]
    unfold tellV
    rw[if_neg (by simp),toS_strL]
end Go.Proofs.YtjfgmgkhinehaaaGreatDoor
namespace Go.Proofs.YtjfgmgkhinehaaaGreatDoor
open Go
theorem parsed_text (j:J) (h:(rgt j 1 256).1=true) (hl:(textL j).length≤4096):parsedL (textL j)=(j,0, -1):=by
 obtain⟨h1,h2,h3⟩:=(right_iff j).1 h
 have ha:At (textL j) 0 (textL j):=by unfold At;rw[List.drop_zero,Nat.zero_add,List.drop_length,List.append_nil]
 have hsk:skipL (textL j) 0=0:=skip_at rfl (begins_facts (text_at h1 ha)).1
 have hend:atL (textL j) (textL j).length= -1:=by unfold atL;rw[List.getD_eq_getElem?_getD,List.getElem?_eq_none (Nat.le_refl _)];rfl
 have hv:=(value_back j h1 (textL j) 8 0 256 (by decide) ha (noD_of (by rw[Nat.zero_add,hend];omega))).1 ⟨by omega,h3⟩
 rw[Nat.zero_add,skip_at hend (by decide)]at hv
 rw[parsedL_is]
 unfold parseL
 rw[if_neg (by omega),hsk,hv,if_neg (by simp),if_neg (by simp)]
end Go.Proofs.YtjfgmgkhinehaaaGreatDoor
