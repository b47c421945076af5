
import Derived.Test.YtjfgmgkhinehaaaGreatDoorCf01
import Derived.Test.YtjfgmgkhinehaaaGreatDoorCf04
import Derived.Test.YtjfgmgkhinehaaaGreatDoorCf07
import Derived.Test.YtjfgmgkhinehaaaGreatDoorCb01
import Derived.Test.YtjfgmgkhinehaaaGreatDoorCb05
set_option linter.all false
namespace Go.Proofs.YtjfgmgkhinehaaaGreatDoor
open Go
def At (l:List Int) (i:Nat) (t:List Int):Prop:=l.drop i=t++l.drop (i+t.length)
theorem At.app {l:List Int} {i:Nat} {t u:List Int}:At l i (t++u)↔At l i t∧At l (i+t.length) u:=by
 unfold At
 constructor
 ·intro h
  rw[List.length_append,←Nat.add_assoc]at h
  have h2:l.drop (i+t.length)=u++l.drop (i+t.length+u.length):=by
   have:=congrArg (List.drop t.length) h
   rw[List.drop_drop,List.append_assoc,List.drop_left]at this
   exact this
  exact⟨by rw[h,List.append_assoc,←h2],h2⟩
 ·rintro⟨h1,h2⟩
  rw[List.length_append,←Nat.add_assoc,List.append_assoc,←h2,←h1]
theorem At.get {l:List Int} {i:Nat} {t:List Int} (h:At l i t) {k:Nat} (hk:k<t.length):atL l (i+k)=t.getD k 0:=by
 have:atL (l.drop i) k=t.getD k 0:=by
  rw[h];unfold atL
  rw[List.getD_eq_getElem?_getD,List.getD_eq_getElem?_getD,List.getElem?_append_left hk,List.getElem?_eq_getElem hk];rfl
 rwa [atL_drop]at this
theorem At.one {l:List Int} {i:Nat} {c:Int} {r:List Int} (h:At l i (c::r)):atL l i=c∧At l (i+1) r:=by
 have h2:At l i ([c]++r):=h
 obtain⟨a,b⟩:=At.app.1 h2
 exact⟨by have:=a.get (k:=0) (by simp);simpa using this,b⟩
theorem At.le {l:List Int} {i:Nat} {t:List Int} (h:At l i t) (hne:t≠[]):i+t.length≤l.length:=by
 have h1:=congrArg List.length h
 rw[List.length_drop,List.length_append,List.length_drop]at h1
 have:0<t.length:=List.length_pos_iff.2 hne
 omega
theorem wordL_at {l:List Int}: ∀(x:List Int) (i:Nat),At l i x→wordL l i x=(i+x.length,0)
 |[],i,_=>rfl
 |c::r,i,h=>by
  obtain⟨h1,h2⟩:=h.one
  rw[wordL,if_pos h1,wordL_at r (i+1) h2,List.length_cons,show i+1+r.length=i+(r.length+1)by omega]
theorem runL_front {d r:List Int} (hd:AllD d) (hr: ∀e r',r=e::r'→isD e=false):runL (d++r)=d.length:=by
 cases r with
 |nil=>rw[List.append_nil];exact runL_all hd
 |cons e r'=>exact runL_app e r' hd (hr e r' rfl)
theorem lead_app {t r:List Int} (h:formL t=true) (hr: ∀e r',r=e::r'→isD e=false):leadL (t++r)=t.length:=by
 rcases formL_parts h with⟨_,hd,h49,e⟩|⟨h45,hd,hne,h1⟩
 ·obtain⟨d,hdd⟩: ∃d,d=t.drop 1:=⟨_,rfl⟩
  rw[←hdd]at hd h49 e
  subst e
  cases d with
  |nil=>simp at h49
  |cons c q=>
   rw[List.getD_cons_zero]at h49
   have h57:=(hd c (by simp)).2
   rw[List.cons_append,leadL,if_pos rfl,List.cons_append,List.getD_cons_zero,if_pos ⟨h49,h57⟩,←List.cons_append,runL_front hd hr]
   rfl
 ·cases t with
  |nil=>exact absurd rfl hne
  |cons c q=>
   rw[List.getD_cons_zero]at h45 h1
   rw[List.cons_append,leadL,if_neg h45]
   by_cases h48:c=48
   ·subst h48
    rw[if_pos rfl]
    rcases h1 with h1|h1
    ·exact absurd h1 (by decide)
    ·exact h1.symm
   ·rw[if_neg h48,←List.cons_append,runL_front hd hr]
theorem lead_at {l:List Int} {i:Nat} {t:List Int} (h:At l i t) (hf:formL t=true) (he:isD (atL l (i+t.length))=false):leadL (l.drop i)=t.length∧(l.drop i).take t.length=t:=by
 rw[h]
 refine⟨lead_app hf fun e r' hr=> ?_,List.take_left⟩
 have h1:atL (l.drop (i+t.length)) 0=e:=by rw[hr];rfl
 rw[atL_drop,Nat.add_zero]at h1
 rw[←h1];exact he
def qB (xs:List Int):List Int:=xs.flatMap qOne
theorem qB_nil:qB []=[]:=rfl
theorem qB_cons (c:Int) (r:List Int):qB (c::r)=qOne c++qB r:=rfl
theorem qB_app (a b:List Int):qB (a++b)=qB a++qB b:=List.flatMap_append
theorem qPre_is (l:List Int): ∀k,k≤l.length→qPre l k=34::qB (l.take k)
 |0,_=>rfl
 |k+1,h=>by
  rw[qPre,qPre_is l k (by omega),List.take_succ_eq_append_getElem (by omega),qB_app,List.getD_eq_getElem?_getD,List.getElem?_eq_getElem (by omega)]
  simp[qB]
theorem quoteL_is (l:List Int):quoteL l=34::(qB l++[34]):=by
 unfold quoteL
 rw[qPre_is l l.length (Nat.le_refl _),List.take_length];rfl
theorem qOne_pos (c:Int):1≤(qOne c).length:=by
 unfold qOne;split
 ·simp
 ·split<;>simp
theorem qB_len: ∀xs:List Int,xs.length≤(qB xs).length
 |[]=>Nat.le_refl _
 |c::r=>by
  have:=qB_len r
  have:=qOne_pos c
  rw[qB_cons,List.length_append,List.length_cons];omega
theorem qB_self: ∀xs:List Int,(∀x∈xs,qOne x=[x])→qB xs=xs
 |[],_=>rfl
 |c::r,h=>by rw[qB_cons,h c (by simp),qB_self r (fun x hx=>h x (List.mem_cons_of_mem _ hx))];rfl
theorem hexD_S {d:Int} (h0:0≤d) (h1:d<16):hexD (hexS d)=d:=by
 unfold hexD hexS
 by_cases h:d<10
 ·rw[if_pos h,if_pos (by omega)];omega
 ·rw[if_neg h,if_neg (by omega),if_pos (by omega)];omega
theorem first_byte {c:Int} {r:List Int} (hv:(nxL (c::r)).1≠ -1) (h:c<128):(nxL (c::r)).2=1∧(nxL (c::r)).1=c:=by
 obtain⟨h1,h2,h3,h4,_,h6,h7⟩:=nx_found hv
 obtain⟨m,hm⟩: ∃m,(nxL (c::r)).2=m+1:=⟨(nxL (c::r)).2-1,by omega⟩
 rw[hm,List.take_succ_cons]at h1
 rcases putL_cases (nxL (c::r)).1 with⟨h',_⟩|⟨_,hlt,h'⟩|⟨_,_,h'⟩|⟨_,_,_,h'⟩|⟨_,_,h'⟩<;>rw[h']at h1 h2
 ·cases h1
 ·injection h1 with a b
  simp at h2
  exact⟨h2.symm,a⟩
 all_goals(injection h1 with a b;omega)
theorem quot_body (l:List Int): ∀(n:Nat) (xs:List Int),xs.length≤n→Bytes xs→badU xs=xs.length→ ∀(f i:Nat) (out:List Int),xs.length<f→At l i (qB xs++[34])→quotL l f i out=(out++xs,i+(qB xs).length+1,0)
 |n,[],_,_,_,0,i,out,hf,h=>absurd hf (Nat.not_lt_zero _)
 |n,[],_,_,_,f+1,i,out,hf,h=>by
  obtain⟨h1,_⟩:=At.one (r:=[]) h
  rw[quotL,if_neg (by omega),if_pos h1,List.append_nil,qB_nil];rfl
 |0,c::r,hl,_,_,_,_,_,_,_=>by simp at hl
 |n+1,c::r,hl,hby,hu,0,i,out,hf,h=>absurd hf (Nat.not_lt_zero _)
 |n+1,c::r,hl,hby,hu,f+1,i,out,hf,h=>by
  have hv:(nxL (c::r)).1≠ -1:=fun e=>by rw[badU_stop e]at hu;cases hu
  have hb:=badU_go hv
  obtain⟨p1,p2,p3,p4,_,p6,p7⟩:=nx_found hv
  obtain⟨m,hm⟩: ∃m,m=(nxL (c::r)).2:=⟨_,rfl⟩
  obtain⟨N,hN⟩: ∃N,N=(nxL (c::r)).1:=⟨_,rfl⟩
  rw[←hm]at hb p1 p2 p3 p4
  rw[←hN]at p1 p2 p6 p7
  have hu2:badU ((c::r).drop m)=((c::r).drop m).length:=by rw[List.length_drop];omega
  have hlen:((c::r).drop m).length<f:=by rw[List.length_drop];simp only[List.length_cons]at hf⊢;omega
  have hln:((c::r).drop m).length≤n:=by rw[List.length_drop];simp only[List.length_cons]at hl⊢;omega
  have hc:=hby.mem (x:=c) (by simp)
  by_cases hlow:c<32∨c=34∨c=92
  ·obtain⟨e1,e2⟩:=first_byte hv (by omega)
   rw[←hm]at e1;rw[←hN]at e2
   subst e1;subst e2
   rw[List.drop_succ_cons,List.drop_zero]at hu2 hlen hln
   have hbr:Bytes r:= .of_mem fun x hx=>hby.mem (List.mem_cons_of_mem _ hx)
   rw[qB_cons,List.append_assoc]at h
   obtain⟨ha,hrest⟩:=At.app.1 h
   have hgo:=fun out=>quot_body l n r hln hbr hu2 f (i+(qOne N).length) out hlen hrest
   have hfin: ∀out:List Int,(out++[N]++r,i+(qOne N).length+(qB r).length+1,(0:Int))=(out++N::r,i+(qB (N::r)).length+1,0):=fun out=>by
    rw[qB_cons,List.length_append,List.append_assoc,←Nat.add_assoc];rfl
   by_cases h32:N<32
   ·have hq:qOne N=[92,117,48,48,hexS (N/16),hexS (N%16)]:=by unfold qOne;rw[if_pos h32]
    rw[hq]at ha hgo hfin
    obtain⟨a0,ha⟩:=ha.one
    obtain⟨a1,ha⟩:=ha.one
    obtain⟨a2,ha⟩:=ha.one
    obtain⟨a3,ha⟩:=ha.one
    obtain⟨a4,ha⟩:=ha.one
    obtain⟨a5,_⟩:=ha.one
    have d4:=hexD_S (d:=N/16) (by omega) (by omega)
    have d5:=hexD_S (d:=N%16) (by omega) (by omega)
    have hx:hexL l 4 (i+2) 0=(N,0):=by
     rw[hexL,a2,if_neg (by decide),hexL,a3,if_neg (by decide),hexL,a4,d4,if_neg (by omega),hexL,a5,d5,if_neg (by omega),hexL]
     have:hexD 48=0:=by decide
     rw[this]
     congr 1;omega
    rw[quotL,if_neg (by omega),if_neg (by omega),if_neg (by omega),if_neg (by omega),hx,if_neg (by omega),if_pos (.inl (by show N<55296;omega)),putL_one (by omega) (by omega)]
    exact(hgo _).trans (hfin out)
   ·have hq:qOne N=[92,N]:=by unfold qOne;rw[if_neg h32,if_pos (by omega)]
    rw[hq]at ha hgo hfin
    obtain⟨a0,ha⟩:=ha.one
    obtain⟨a1,_⟩:=ha.one
    have hpl:plainL N=[N]:=by unfold plainL;rw[if_pos (by omega)]
    rw[quotL,if_neg (by omega),if_neg (by omega),if_neg (by omega),if_pos (by omega),a1,hpl,if_neg (by simp)]
    exact(hgo _).trans (hfin out)
  ·have hself: ∀x∈(c::r).take m,qOne x=[x]:=fun x hx=>by
    by_cases h128:c<128
    ·obtain⟨e1,e2⟩:=first_byte hv h128
     rw[←hm]at e1
     rw[e1,List.take_succ_cons,List.take_zero,List.mem_singleton]at hx
     subst hx
     unfold qOne;rw[if_neg (by omega),if_neg (by omega)]
    ·have hNb:128≤N:=Decidable.byContradiction fun hn=>by
      rw[putL_one p6 (by omega)]at p1
      obtain⟨m',rfl⟩: ∃m',m=m'+1:=⟨m-1,by omega⟩
      rw[List.take_succ_cons]at p1
      injection p1 with a b;omega
     have:=putL_big hNb x (by rw[p1];exact hx)
     unfold qOne;rw[if_neg (by omega),if_neg (by omega)]
   obtain⟨T,hT⟩: ∃T,T=(c::r).take m:=⟨_,rfl⟩
   obtain⟨D,hD⟩: ∃D,D=(c::r).drop m:=⟨_,rfl⟩
   have hcr:c::r=T++D:=by rw[hT,hD,List.take_append_drop]
   have hTl:T.length=m:=by rw[hT,List.length_take];omega
   have hqT:qB T=T:=qB_self T (by rw[hT];exact hself)
   rw[←hT]at p1
   rw[←hD]at hu2 hlen hln
   have hat:atL l i=c:=by
    have hT1: ∃T',T=c::T':=by
     obtain⟨m',e⟩: ∃m',m=m'+1:=⟨m-1,by omega⟩
     rw[e,List.take_succ_cons]at hT
     exact⟨_,hT⟩
    obtain⟨T',hT'⟩:=hT1
    rw[hcr,qB_app,hqT,hT',List.cons_append,List.cons_append]at h
    exact h.one.1
   rw[hcr,qB_app,hqT,List.append_assoc]at h
   obtain⟨ha,hrest⟩:=At.app.1 h
   have hnx:nxL (l.drop i)=(N,m):=by
    rw[ha,←p1,nx_put p7,p2]
   have htk:(l.drop i).take m=T:=by rw[ha,←hTl,List.take_left]
   have hbD:Bytes D:=by rw[hD];exact hby.drop m
   rw[quotL,if_neg (by omega),if_neg (by omega),if_pos (by omega),hnx,if_neg (by show ¬N<0;omega)]
   show quotL l f (i+m) (out++(l.drop i).take m)=_
   rw[htk]
   rw[hTl]at hrest
   rw[quot_body l n D hln hbD hu2 f (i+m) _ hlen hrest,hcr,qB_app,hqT,List.length_append,hTl,List.append_assoc,←Nat.add_assoc]
 termination_by n xs=>n
theorem quoted_at {l:List Int} {i:Nat} {xs:List Int} (hb:Bytes xs) (hu:badU xs=xs.length) (h:At l i (quoteL xs)):quotedL l i=(xs,i+(quoteL xs).length,0):=by
 rw[quoteL_is]at h⊢
 obtain⟨h1,h2⟩:=h.one
 have hle:=h2.le (by simp)
 rw[List.length_append]at hle
 have hq:=qB_len xs
 unfold quotedL
 rw[if_neg (fun hn=>hn h1),quot_body l _ xs (Nat.le_refl _) hb hu (l.length+1) (i+1) [] (by simp at hle;omega) h2,List.nil_append]
 simp only[List.length_cons,List.length_append,List.length_nil]
 rw[show i+1+(qB xs).length+1=i+((qB xs).length+(0+1)+1)by omega]
end Go.Proofs.YtjfgmgkhinehaaaGreatDoor
