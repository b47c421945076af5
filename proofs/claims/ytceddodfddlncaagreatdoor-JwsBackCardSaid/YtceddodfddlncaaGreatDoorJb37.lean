
import Derived.Sort.Lot0
import Derived.Test.YtceddodfddlncaaGreatDoorJb36
set_option maxRecDepth 100000
set_option maxHeartbeats 16000000
set_option linter.all false
namespace Go.Proofs.YtceddodfddlncaaGreatDoor
open Go Go.Sort
variable {α:Type} [Inhabited α]
theorem SWO.le {lt:α→α→Bool} {a m:Nat} {d:Array α} (hS:SWO lt) (h:SortedIn lt a m d) {i j:Nat} (hi:a≤i) (hij:i≤j) (hj:j<m):lt d[j]! d[i]! =false:=by
 by_cases e:i=j
 ·subst e;exact hS.irrefl _
 ·exact h i j hi (by omega) hj
theorem SWO.asymm {lt:α→α→Bool} (hS:SWO lt) {x y:α} (h:lt x y=true):lt y x=false:=by
 cases hyx:lt y x with
 |false=>rfl
 |true=>have:=hS.trans _ _ _ h hyx;rw[hS.irrefl]at this;cases this
def Rot (d d':Array α) (s m e:Nat):Prop:=
 (∀i,i<s∨e≤i→d'[i]! =d[i]!)∧(∀i,s≤i→i<s+(e-m)→d'[i]! =d[m+(i-s)]!)∧(∀i,s+(e-m)≤i→i<e→d'[i]! =d[i-(e-m)]!)
theorem Rot.none (d:Array α) {s m e:Nat} (hs:s≤m) (he:m≤e) (h:s=m∨m=e):Rot d d s m e:=
 ⟨fun _ _=>rfl,fun i h1 h2=>by congr 1;omega,fun i h1 h2=>by congr 1;omega⟩
theorem sym_part {lt:α→α→Bool} (hS:SWO lt) {d d':Array α} {a m b mid s e:Nat} (ha:a≤s) (hs:s≤m) (hm:m≤e) (he:e≤b) (hmid:s+e=mid+m) (h1:SortedIn lt a m d) (h2:SortedIn lt m b d)
  (hlo:a<s→e<b→lt d[e]! d[s-1]! =false) (hhi:s<m→m<e→lt d[e-1]! d[s]! =true) (hr:Rot d d' s m e):
  SortedIn lt a s d'∧SortedIn lt s mid d'∧SortedIn lt mid e d'∧SortedIn lt e b d'∧ ∀x y,a≤x→x<mid→mid≤y→y<b→lt d'[y]! d'[x]! =false:=by
 obtain⟨r1,r2,r3⟩:=hr
 refine⟨fun i j hi hij hj=> ?_,fun i j hi hij hj=> ?_,fun i j hi hij hj=> ?_,fun i j hi hij hj=> ?_,fun x y hx hxm hy hyb=> ?_⟩
 ·rw[r1 i (.inl (by omega)),r1 j (.inl hj)];exact h1 i j hi hij (by omega)
 ·rw[r2 i hi (by omega),r2 j (by omega) (by omega)];exact h2 _ _ (by omega) (by omega) (by omega)
 ·rw[r3 i (by omega) (by omega),r3 j (by omega) (by omega)];exact h1 _ _ (by omega) (by omega) (by omega)
 ·rw[r1 i (.inr (by omega)),r1 j (.inr (by omega))];exact h2 i j (by omega) hij hj
 ·by_cases hxs:x<s
  ·rw[r1 x (.inl hxs)]
   by_cases hye:y<e
   ·rw[r3 y (by omega) hye];exact h1 _ _ hx (by omega) (by omega)
   ·rw[r1 y (.inr (by omega))]
    have e1:=SWO.le hS h2 (i:=e) (j:=y) hm (by omega) hyb
    have e2:=hlo (by omega) (by omega)
    have e3:=SWO.le hS h1 (i:=x) (j:=s-1) hx (by omega) (by omega)
    exact hS.ntrans _ _ _ (hS.ntrans _ _ _ e1 e2) e3
  ·rw[r2 x (by omega) (by omega)]
   by_cases hye:y<e
   ·rw[r3 y (by omega) hye]
    have e1:=SWO.le hS h1 (i:=s) (j:=y-(e-m)) ha (by omega) (by omega)
    have e2:=SWO.asymm hS (hhi (by omega) (by omega))
    have e3:=SWO.le hS h2 (i:=m+(x-s)) (j:=e-1) (by omega) (by omega) (by omega)
    exact hS.ntrans _ _ _ (hS.ntrans _ _ _ e1 e2) e3
   ·rw[r1 y (.inr (by omega))]
    exact h2 _ _ (by omega) (by omega) hyb
theorem merge_glue {lt:α→α→Bool} {d0 d1 d2:Array α} {a mid b:Nat} (ha:a≤mid) (hb:mid≤b) (hsz:b≤d0.size) (hx: ∀x y,a≤x→x<mid→mid≤y→y<b→lt d0[y]! d0[x]! =false)
  (p1:PermIn a mid d0 d1) (s1:SortedIn lt a mid d1) (p2:PermIn mid b d1 d2) (s2:SortedIn lt mid b d2):PermIn a b d0 d2∧SortedIn lt a b d2:=by
 refine⟨permIn_trans _ _ _ _ _ (permIn_mono _ _ _ _ _ _ (Nat.le_refl _) hb hsz p1) (permIn_mono _ _ _ _ _ _ ha (Nat.le_refl _) (by rw[p1.1];exact hsz) p2),fun i j hi hij hj=> ?_⟩
 by_cases hjm:j<mid
 ·rw[p2.2.1 i (.inl (by omega)),p2.2.1 j (.inl hjm)];exact s1 i j hi hij hjm
 ·by_cases him:i<mid
  ·rw[p2.2.1 i (.inl him)]
   have q1: ∀x,a≤x→x<mid→ ∀y,mid≤y→y<b→lt d0[y]! d1[x]! =false:=
    permIn_all d0 d1 a mid (fun v=> ∀y,mid≤y→y<b→lt d0[y]! v=false) (by omega) p1 (fun x h1 h2 y h3 h4=>hx x y h1 h2 h3 h4)
   have q2: ∀y,mid≤y→y<b→lt d2[y]! d1[i]! =false:=
    permIn_all d1 d2 mid b (fun v=>lt v d1[i]! =false) (by rw[p1.1];exact hsz) p2 (fun y h3 h4=>by rw[p1.2.1 y (.inr h3)];exact q1 i hi him y h3 h4)
   exact q2 j (by omega) hj
  ·exact s2 i j (by omega) hij hj
theorem swo_cmpM_of (h0: ∀x y:List UInt8,Lib.compareBytes x y<0↔Op.bytesLess x y=true) (hS:SWO (fun x y:List UInt8=>Op.bytesLess x y)):SWO (ltOf cmpM):=by
 have e: ∀x y:MT,ltOf cmpM x y=Op.bytesLess x.nm.data.toList y.nm.data.toList:=fun x y=>by
  unfold ltOf cmpM
  cases h:Op.bytesLess x.nm.data.toList y.nm.data.toList with
  |true=>exact decide_eq_true ((h0 _ _).2 h)
  |false=>exact decide_eq_false (fun hh=>by rw[(h0 _ _).1 hh]at h;cases h)
 exact⟨fun x=>by rw[e];exact hS.irrefl _,fun x y z=>by rw[e,e,e];exact hS.trans _ _ _,fun x y z=>by rw[e,e,e];exact hS.ntrans _ _ _⟩
theorem zee: ∀a b:List UInt8,Lib.compareBytes a b<0↔Op.bytesLess a b=true
 |[],[]=>by simp[Lib.compareBytes,Op.bytesLess]
 |[],_::_=>by simp[Lib.compareBytes,Op.bytesLess]
 |_::_,[]=>by simp[Lib.compareBytes,Op.bytesLess]
 |a::xs,b::ys=>by
  rw[Lib.compareBytes,Op.bytesLess]
  by_cases h:a<b
  ·simp[h]
  ·rw[if_neg h]
   by_cases h2:b<a
   ·rw[if_pos h2]
    have:a≠b:=fun e=>by subst e;exact absurd h2 h
    simp[h,this]
   ·rw[if_neg h2]
    have:a=b:=UInt8.le_antisymm (UInt8.not_lt.1 h2) (UInt8.not_lt.1 h)
    subst this
    rw[zee xs ys]
    simp[h]
theorem zeo: ∀x y z:List UInt8,Op.bytesLess x y=true→Op.bytesLess y z=true→Op.bytesLess x z=true
 |x,[],z,h,_=>by cases x<;>simp[Op.bytesLess]at h
 |x,b::y,[],_,h=>by simp[Op.bytesLess]at h
 |[],b::y,c::z,_,_=>rfl
 |a::x,b::y,c::z,h1,h2=>by
  simp only[Op.bytesLess,Bool.or_eq_true,decide_eq_true_eq,Bool.and_eq_true,beq_iff_eq]at h1 h2⊢
  rcases h1 with h1|⟨rfl,h1⟩
  ·rcases h2 with h2|⟨rfl,h2⟩
   ·exact .inl (UInt8.lt_trans h1 h2)
   ·exact .inl h1
  ·rcases h2 with h2|⟨rfl,h2⟩
   ·exact .inl h2
   ·exact .inr ⟨rfl,zeo x y z h1 h2⟩
theorem zjy: ∀x y z:List UInt8,Op.bytesLess x y=false→Op.bytesLess y z=false→Op.bytesLess x z=false
 |x,y,[],_,_=>by cases x<;>rfl
 |x,[],c::z,_,h=>by simp[Op.bytesLess]at h
 |[],b::y,c::z,h,_=>by simp[Op.bytesLess]at h
 |a::x,b::y,c::z,h1,h2=>by
  cases h:Op.bytesLess (a::x) (c::z)with
  |false=>rfl
  |true=>
   exfalso
   simp only[Op.bytesLess,Bool.or_eq_true,decide_eq_true_eq,Bool.and_eq_true,beq_iff_eq]at h
   have n1: ¬a<b:=fun e=>by simp[Op.bytesLess,e]at h1
   have n2: ¬b<c:=fun e=>by simp[Op.bytesLess,e]at h2
   have l1:=UInt8.not_lt.1 n1
   have l2:=UInt8.not_lt.1 n2
   rcases h with h|⟨rfl,h⟩
   ·exact absurd (UInt8.le_trans l2 l1) (UInt8.not_le.2 h)
   ·have e:b=a:=UInt8.le_antisymm l1 l2
    subst e
    have m1:Op.bytesLess x y=false:=by simpa[Op.bytesLess]using h1
    have m2:Op.bytesLess y z=false:=by simpa[Op.bytesLess]using h2
    rw[zjy x y z m1 m2]at h
    cases h
theorem zfn: ∀l:List UInt8,Op.bytesLess l l=false
 |[]=>rfl
 |a::l=>by simp[Op.bytesLess,zfn l]
theorem swo_cmpM:SWO (ltOf cmpM):=swo_cmpM_of zee ⟨zfn,zeo,zjy⟩
theorem ltOf_cmpM (x y:MT):ltOf cmpM x y=Op.bytesLess x.nm.toList y.nm.toList:=by
 have e: ∀t:ByteArray,t.toList=t.data.toList:=fun t=>ByteArray.toList_eq t
 unfold ltOf cmpM
 rw[e,e]
 cases h:Op.bytesLess x.nm.data.toList y.nm.data.toList with
 |true=>exact decide_eq_true ((zee _ _).2 h)
 |false=>exact decide_eq_false (fun hh=>by rw[(zee _ _).1 hh]at h;cases h)
def insM (t:ByteArray) (x:J):List (ByteArray×J)→List (ByteArray×J)
 |[]=>[(t,x)]
 |m::r=>if Op.bytesLess m.1.toList t.toList=true then m::insM t x r else(t,x)::m::r
theorem zln (t:ByteArray) (x:J): ∀r:List (ByteArray×J),(∀m∈r,m.1≠t)→zca t x true (r.map Prod.fst) (r.map Prod.snd)=(r.map Prod.fst,r.map Prod.snd)
 |[],_=>rfl
 |m::r,h=>by
  have hm: ¬m.1=t:=h m (by simp)
  rw[List.map_cons,List.map_cons,zca]
  simp only[Bool.true_or,List.tail_cons,List.headD_cons]
  rw[zln t x r (fun m' h'=>h m' (List.mem_cons_of_mem _ h')),if_neg hm,if_neg (by simp)]
  rfl
theorem zjt (t:ByteArray) (x:J): ∀r:List (ByteArray×J),(∀m∈r,m.1≠t)→zca t x false (r.map Prod.fst) (r.map Prod.snd)=((insM t x r).map Prod.fst,(insM t x r).map Prod.snd)
 |[],_=>rfl
 |m::r,h=>by
  have hm: ¬m.1=t:=h m (by simp)
  have hr:=fun m' h'=>h m' (List.mem_cons_of_mem _ h')
  rw[List.map_cons,List.map_cons,zca,insM]
  simp only[Bool.false_or,List.tail_cons,List.headD_cons]
  rw[if_neg hm]
  cases hb:Op.bytesLess m.1.toList t.toList with
  |true=>
   rw[if_neg (by simp),if_pos rfl]
   show([]++[m.1]++(zca t x false (r.map Prod.fst) (r.map Prod.snd)).1,[]++[m.2]++(zca t x false (r.map Prod.fst) (r.map Prod.snd)).2)=_
   rw[zjt t x r hr]
   rfl
  |false=>
   rw[if_pos (by simp),if_neg (by simp)]
   show([t]++[m.1]++(zca t x true (r.map Prod.fst) (r.map Prod.snd)).1,[x]++[m.2]++(zca t x true (r.map Prod.fst) (r.map Prod.snd)).2)=_
   rw[zln t x r hr]
   rfl
theorem zhh (t:ByteArray) (x:J): ∀r:List (ByteArray×J),(insM t x r).Perm ((t,x)::r)
 |[]=>List.Perm.refl _
 |m::r=>by
  rw[insM];split
  ·exact((zhh t x r).cons m).trans (List.Perm.swap _ _ _)
  ·exact List.Perm.refl _
def Rises (r:List (ByteArray×J)):Prop:=r.Pairwise fun a b=>Op.bytesLess a.1.toList b.1.toList=true
theorem zlx {a b:ByteArray} (h:a≠b) (h1:Op.bytesLess a.toList b.toList=false):Op.bytesLess b.toList a.toList=true:=by
 have key: ∀x y:List UInt8,Op.bytesLess x y=false→Op.bytesLess y x=false→x=y:=by
  intro x
  induction x with
  |nil=>intro y h1 _;cases y with
   |nil=>rfl
   |cons b y=>simp[Op.bytesLess]at h1
  |cons a x ih=>intro y h1 h2;cases y with
   |nil=>simp[Op.bytesLess]at h2
   |cons b y=>
    have n1: ¬a<b:=fun e=>by simp[Op.bytesLess,e]at h1
    have n2: ¬b<a:=fun e=>by simp[Op.bytesLess,e]at h2
    have e:a=b:=UInt8.le_antisymm (UInt8.not_lt.1 n2) (UInt8.not_lt.1 n1)
    subst e
    rw[ih y (by simpa[Op.bytesLess]using h1) (by simpa[Op.bytesLess]using h2)]
 cases h2:Op.bytesLess b.toList a.toList with
 |true=>rfl
 |false=>
  refine absurd ?_ h
  have:=key _ _ h1 h2
  have e:=zcK a b
  rw[this]at e
  simpa using e.symm
theorem zhx (t:ByteArray) (x:J): ∀r:List (ByteArray×J),(∀m∈r,m.1≠t)→Rises r→Rises (insM t x r)
 |[],_,_=>by unfold Rises insM;simp
 |m::r,h,hr=>by
  unfold Rises at hr⊢
  rw[List.pairwise_cons]at hr
  rw[insM]
  cases hb:Op.bytesLess m.1.toList t.toList with
  |true=>
   rw[if_pos rfl,List.pairwise_cons]
   refine⟨fun y hy=> ?_,zhx t x r (fun m' h'=>h m' (List.mem_cons_of_mem _ h')) hr.2⟩
   rcases List.mem_cons.1 ((zhh t x r).mem_iff.1 hy)with rfl|hy
   ·exact hb
   ·exact hr.1 y hy
  |false=>
   rw[if_neg (by simp),List.pairwise_cons,List.pairwise_cons]
   have ht:=zlx (h m (by simp)) hb
   refine⟨fun y hy=> ?_,hr⟩
   rcases List.mem_cons.1 hy with rfl|hy
   ·exact ht
   ·exact zeo _ _ _ ht (hr.1 y hy)
theorem zlm: ∀(n:Nat) (ms:List (ByteArray×J)),ms.length=n→(ms.map Prod.fst).Nodup→ ∃r,zcx ms=(r.map Prod.fst,r.map Prod.snd)∧r.Perm ms∧Rises r
 |0,ms,h,_=>by rw[List.eq_nil_of_length_eq_zero h];exact⟨[],rfl,List.Perm.refl _,by unfold Rises;simp⟩
 |n+1,ms,h,hn=>by
  obtain⟨m,t,x,rfl⟩: ∃m t x,ms=m++[(t,x)]:=⟨ms.dropLast,(ms.getLast (by intro e;rw[e]at h;cases h)).1,(ms.getLast (by intro e;rw[e]at h;cases h)).2,(List.dropLast_concat_getLast _).symm⟩
  rw[List.map_append,List.nodup_append]at hn
  obtain⟨r,h1,h2,h3⟩:=zlm n m (by simpa using h) hn.1
  have hne: ∀y∈r,y.1≠t:=fun y hy e=>hn.2.2 y.1 (List.mem_map_of_mem (h2.mem_iff.1 hy)) t (by simp) e
  refine⟨insM t x r,?_,?_,zhx t x r hne h3⟩
  ·rw[zgZ,h1];exact zjt t x r hne
  ·exact(zhh t x r).trans (((h2.cons (t,x))).trans (List.perm_append_comm (l₁:=[(t,x)]) (l₂:=m)))
theorem rises_unique {r r':List (ByteArray×J)} (hp:r.Perm r') (h:Rises r) (h':Rises r'):r=r':=
 List.Perm.eq_of_pairwise (fun a b _ _ h1 h2=>absurd (zeo _ _ _ h1 h2) (by rw[zfn];simp)) h h' hp
theorem FlatM.cons_of {W:World} {S:Nat→Prop} {ms:List (ByteArray×J)} {z:MC} {zs:List MC} (h:FlatM W S ms (z::zs)): ∃m r,ms=m::r∧FlatM W S [m] [z]∧FlatM W S r zs:=by
 cases ms with
 |nil=>rw[FlatM]at h;cases h
 |cons m r=>
  obtain⟨z',zs',e,h1,h2,h3,h4⟩:=h
  injection e with e1 e2
  subst e1;subst e2
  exact⟨m,r,rfl,⟨z,[],rfl,h1,h2,h3,rfl⟩,h4⟩
theorem FlatM.cons_to {W:World} {S:Nat→Prop} {m:ByteArray×J} {r:List (ByteArray×J)} {z:MC} {zs:List MC} (h:FlatM W S [m] [z]) (hr:FlatM W S r zs):FlatM W S (m::r) (z::zs):=by
 obtain⟨z',zs',e,h1,h2,h3,_⟩:=h
 injection e with e1 e2
 subst e1
 exact⟨z,zs,rfl,h1,h2,h3,hr⟩
theorem FlatM.perm {W:World} {S:Nat→Prop} {zs zs':List MC} (hp:zs.Perm zs'): ∀ms:List (ByteArray×J),FlatM W S ms zs→ ∃ms',ms'.Perm ms∧FlatM W S ms' zs':=by
 induction hp with
 |nil=>intro ms h;exact⟨ms,List.Perm.refl _,h⟩
 |cons z _ ih=>
  intro ms h
  obtain⟨m,r,rfl,h1,h2⟩:=h.cons_of
  obtain⟨r',p1,p2⟩:=ih r h2
  exact⟨m::r',p1.cons m,h1.cons_to p2⟩
 |swap a b l=>
  intro ms h
  obtain⟨m,r,rfl,h1,h2⟩:=h.cons_of
  obtain⟨m2,r2,rfl,h3,h4⟩:=h2.cons_of
  exact⟨m2::m::r2,List.Perm.swap _ _ _,h3.cons_to (h1.cons_to h4)⟩
 |trans _ _ ih1 ih2=>
  intro ms h
  obtain⟨m1,p1,q1⟩:=ih1 ms h
  obtain⟨m2,p2,q2⟩:=ih2 m1 q1
  exact⟨m2,p2.trans p1,q2⟩
theorem zhW {ms r:List (ByteArray×J)} (hn:(ms.map Prod.fst).Nodup) (hp:r.Perm ms) (hr:Rises r):zcx ms=(r.map Prod.fst,r.map Prod.snd):=by
 obtain⟨r',h1,h2,h3⟩:=zlm _ ms rfl hn
 rw[h1,rises_unique (h2.trans hp.symm) h3 hr]
end Go.Proofs.YtceddodfddlncaaGreatDoor
namespace Go.Proofs.YtceddodfddlncaaGreatDoor
open Go Go.RowKit
def sAlg:ByteArray:=⟨#[97,108,103]⟩
def sKid:ByteArray:=⟨#[107,105,100]⟩
def sTyp:ByteArray:=⟨#[116,121,112]⟩
def sHS:ByteArray:=⟨#[72,83,50,53,54]⟩
def zkY (kid kind:ByteArray):List (ByteArray×J):=[(sAlg,zbz sHS),(sKid,zbz kid),(sTyp,zbz kind)]
def zeq (kid kind:ByteArray):J:= .mk 5 0 ⟨#[]⟩ [zbz sHS,zbz kid,zbz kind] [sAlg,sKid,sTyp]
theorem putsL_head (kid kind:ByteArray):zcx (zkY kid kind)=([sAlg,sKid,sTyp],[zbz sHS,zbz kid,zbz kind]):=by
 unfold zcx zkY
 simp only[List.foldl_cons,List.foldl_nil,zca,List.tail_nil,List.tail_cons,List.headD_cons]
 have a1:Op.bytesLess sAlg.toList sKid.toList=true:=by decide+kernel
 have a2:Op.bytesLess sAlg.toList sTyp.toList=true:=by decide+kernel
 have a3:Op.bytesLess sKid.toList sTyp.toList=true:=by decide+kernel
 have n1: ¬sAlg=sKid:=by decide+kernel
 have n2: ¬sAlg=sTyp:=by decide+kernel
 have n3: ¬sKid=sTyp:=by decide+kernel
 simp[zca,a1,a2,a3,n1,n2,n3]
def tHead:List Int:=[123,34,97,108,103,34,58,34,72,83,50,53,54,34,44,34,107,105,100,34,58]
def tTyp:List Int:=[44,34,116,121,112,34,58]
def hdrL (kid kind:ByteArray):List Int:=tHead++(zar (strL kid)++(tTyp++(zar (strL kind)++[125])))
theorem quote_alg:zar (strL sAlg)=[34,97,108,103,34]:=by decide+kernel
theorem quote_kid:zar (strL sKid)=[34,107,105,100,34]:=by decide+kernel
theorem quote_typ:zar (strL sTyp)=[34,116,121,112,34]:=by decide+kernel
theorem quote_hs:zar (strL sHS)=[34,72,83,50,53,54,34]:=by decide+kernel
theorem textL_text (t:ByteArray):zao (zbz t)=zar (strL t):=by rw[zbz,zao];rfl
theorem zej (kid kind:ByteArray):zao (zeq kid kind)=hdrL kid kind:=by
 rw[zeq,zao,if_neg (by decide),if_neg (by decide),if_neg (by decide),if_neg (by decide),if_neg (by decide),if_pos rfl]
 simp only[zam,textL_text,List.headD_cons,List.tail_cons,quote_alg,quote_kid,quote_typ,quote_hs]
 unfold hdrL tHead tTyp
 simp
def zeW (h p:List Int):List Int:=encL h++46::encL p
def zdJ (sec h p:List Int):List Int:=zeW h p++46::encL (macL sec (zeW h p))
def zdv (k:KeyM) (kind payload:ByteArray):List Int:=zdJ (strL k.2) (hdrL k.1 kind) (strL payload)
def zfk (ks:List KeyM) (kind payload:ByteArray):List Int×Int:=
 if zbn ks=false then([],83)else if zbJ (strL kind)=false then([],1)else if 4096<payload.size then([],2)else
 if 4096<(zdv (ks.getLastD default) kind payload).length then([],2)else(zdv (ks.getLastD default) kind payload,0)
def cutL (l:List Int):Option (List Int×List Int×List Int):=
 match zdX l with
 |[a,b,c]=>if zas a= -1∧zas b= -1∧zas c= -1 then some (a,b,c)else none
 |_=>none
def sayB (j:J) (name t:ByteArray):Bool:=zhZ ((getJ j name).getD zeroJ) (zbz t)
def zdi (l:List Int):Bool:=decide ((zai l).2.1=0)&&decide ((zai l).1.kind=5)&&(zai l).1.k.all fun n=>decide (n=sAlg∨n=sKid∨n=sTyp)
def verP (ks:List KeyM) (kind:ByteArray) (a b c:List Int):List Int×List Int×Int:=
 if zdi (decL a)=false then([],[],81)else
 if sayB (zai (decL a)).1 sAlg sHS=false then([],[],82)else
 if sayB (zai (decL a)).1 sTyp kind=false then([],[],81)else
 match ks.find? (fun k=>sayB (zai (decL a)).1 sKid k.1)with
 |none=>([],[],83)
 |some k=>if macL (strL k.2) (a++46::b)=decL c then(decL b,strL k.1,0)else([],[],84)
def verM (ks:List KeyM) (kind text:ByteArray):List Int×List Int×Int:=
 if zbn ks=false then([],[],83)else if zbJ (strL kind)=false then([],[],1)else if 4096<text.size then([],[],2)else
 match cutL (strL text)with
 |none=>([],[],80)
 |some (a,b,c)=>verP ks kind a b c
end Go.Proofs.YtceddodfddlncaaGreatDoor
namespace Go.Proofs.YtceddodfddlncaaGreatDoor
open Go
def Fits (j:J) (left:Int) (d:Nat):Prop:=(szJ j:Int)≤left∧dpJ j≤d
def VB (l:List Int) (e d:Nat) (left:Int) (j:J) (r:VR):Prop:=(Fits j left d→r=(j,zaW l e,left-(szJ j:Int),0))∧(¬Fits j left d→r.2.2.2≠0)
theorem VB.bad {l:List Int} {e d:Nat} {left:Int} {j:J} {r:VR} (h: ¬Fits j left d) (hr:r.2.2.2≠0):VB l e d left j r:=⟨fun hf=>absurd hf h,fun _=>hr⟩
theorem VB.good {l:List Int} {e d:Nat} {left:Int} {j:J} {r:VR} (h:Fits j left d) (hr:r=(j,zaW l e,left-(szJ j:Int),0)):VB l e d left j r:=⟨fun _=>hr,fun hn=>absurd h hn⟩
def Reads (l:List Int) (d:Nat) (j:J) (val:Nat→Int→VR):Prop:= ∀(i:Nat) (left:Int),0≤left→At l i (zao j)→isD (atL l (i+(zao j).length))=false→VB l (i+(zao j).length) d left j (val i left)
theorem utf_of {s:ByteArray} (h:utfS s=true):badU (strL s)=(strL s).length:=by unfold utfS at h;exact of_decide_eq_true h
theorem zlX {j:J} (h:Rt j): ∃c r,zao j=c::r∧zba c=true:=by
 cases h with
 |mk kind n s l k a1 a2 a3 a4=>
  rw[zao]
  by_cases h0:kind=0
  ·rw[if_pos h0];exact⟨_,_,rfl,by decide⟩
  rw[if_neg h0]
  by_cases h1:kind=1
  ·rw[if_pos h1];split
   ·exact⟨_,_,rfl,by decide⟩
   ·exact⟨_,_,rfl,by decide⟩
  rw[if_neg h1]
  by_cases h2:kind=2
  ·rw[if_pos h2]
   have hd: ∀m:Nat,∃c r,digL m=c::r∧48≤c∧c≤57:=fun m=>by
    cases hm:digL m with
    |nil=>exact absurd hm (ziQ m)
    |cons c r=>exact⟨c,r,rfl,zcr m c (by rw[hm];simp)⟩
   unfold prL
   split
   ·exact⟨_,_,rfl,by decide⟩
   ·obtain⟨c,r,e,x,y⟩:=hd n.natAbs
    exact⟨c,r,e,by unfold zba;rw[decide_eq_true_eq];omega⟩
  rw[if_neg h2]
  by_cases h3:kind=3
  ·rw[if_pos h3,zen];exact⟨_,_,rfl,by decide⟩
  rw[if_neg h3]
  by_cases h4:kind=4
  ·rw[if_pos h4];exact⟨91,zam false true l k++[93],rfl,by decide⟩
  rw[if_neg h4]
  rcases a3 with a|a|a
  ·exact absurd a h4
  ·rw[if_pos a];exact⟨123,zam true true l k++[125],rfl,by decide⟩
  ·rcases zkZ a with a|a|a|a
   ·exact absurd a h0
   ·exact absurd a h1
   ·exact absurd a h2
   ·exact absurd a h3
theorem zdg {c:Int} (h:zba c=true): ¬isB c=true∧c≠93∧c≠125∧c≠44∧c≠58∧0≤c:=by
 unfold zba at h
 unfold isB
 rw[decide_eq_true_eq]at h⊢
 omega
theorem noB_of {c:Int} (h:c=44∨c=93∨c=125∨c=58∨c=34): ¬isB c=true:=by unfold isB;rw[decide_eq_true_eq];omega
theorem noD_of {c:Int} (h:c=44∨c=93∨c=125∨c= -1∨c=32∨c=9∨c=10∨c=13):isD c=false:=isD_false.2 (by omega)
theorem zhp {l:List Int} {j:J} {i:Nat} (h:Rt j) (ha:At l i (zao j)):zba (atL l i)=true:=by
 obtain⟨c,r,e,hb⟩:=zlX h
 rw[e]at ha
 rw[ha.one.1];exact hb
theorem items_next (rest:List J) (k:List ByteArray): ∃c r,zam false false rest k++[93]=c::r∧(c=44∨c=93):=by
 cases rest with
 |nil=>exact⟨93,[],by rw[zam];rfl,.inr rfl⟩
 |cons x r=>rw[zam,if_neg (by simp)];exact⟨_,_,rfl,.inl rfl⟩
theorem many_back (l:List Int) (d:Nat) (val:Nat→Int→VR): ∀(rest:List J),(∀x∈rest,Rt x∧Reads l d x val)→ ∀(f:Nat) (first:Bool) (i:Nat) (left:Int) (vs:List J) (k:List ByteArray),0≤left→rest.length<f→At l i (zam false first rest k++[93])→
  ((szLs rest:Int)≤left∧dpLs rest≤d→zat l val false f first i left [] vs=(.mk 4 0 ⟨#[]⟩ (vs++rest) [],zaW l (i+(zam false first rest k).length+1),left-(szLs rest:Int),0))∧
  (¬((szLs rest:Int)≤left∧dpLs rest≤d)→(zat l val false f first i left [] vs).2.2.2≠0)
 |_,_,0,_,_,_,_,_,_,hf,_=>absurd hf (Nat.not_lt_zero _)
 |[],_,f+1,first,i,left,vs,k,h0,_,ha=>by
  rw[zam]at ha⊢
  obtain⟨h93,_⟩:=At.one (r:=[]) ha
  rw[zat,if_pos (by simpa using h93),szLs,dpLs,List.append_nil]
  exact⟨fun _=>by simp,fun h=>absurd ⟨by simpa using h0,Nat.zero_le _⟩ h⟩
 |x::r,hall,f+1,first,i,left,vs,k,h0,hf,ha=>by
  obtain⟨hx,hrd⟩:=hall x (by simp)
  obtain⟨cn,rn,hn,hcn⟩:=items_next r k.tail
  have hitem: ∀a:Nat,At l a (zao x++(zam false false r k.tail++[93]))→
    ((szLs (x::r):Int)≤left∧dpLs (x::r)≤d→zfa l val false (zat l val false f false) a left ⟨#[]⟩ [] vs=(.mk 4 0 ⟨#[]⟩ (vs++x::r) [],zaW l (a+(zao x).length+(zam false false r k.tail).length+1),left-(szLs (x::r):Int),0))∧
    (¬((szLs (x::r):Int)≤left∧dpLs (x::r)≤d)→(zfa l val false (zat l val false f false) a left ⟨#[]⟩ [] vs).2.2.2≠0):=fun a hat=>by
   obtain⟨hat1,hat2⟩:=At.app.1 hat
   have hnext:=hat2
   rw[hn]at hnext
   have hc:=hnext.one.1
   have hv:=hrd a left h0 hat1 (noD_of (by rw[hc];omega))
   rw[szLs,dpLs]
   by_cases hfit:Fits x left d
   ·have e:=hv.1 hfit
    have hsk:zaW l (a+(zao x).length)=a+(zao x).length:=zbu (noB_of (by rw[hc];omega))
    obtain⟨f1,f2⟩:=hfit
    have ih:=many_back l d val r (fun y hy=>hall y (List.mem_cons_of_mem _ hy)) f false (a+(zao x).length) (left-(szJ x:Int)) (vs++[x]) k.tail (by omega) (by simp at hf;omega) hat2
    have e2:zfa l val false (zat l val false f false) a left ⟨#[]⟩ [] vs=zat l val false f false (a+(zao x).length) (left-(szJ x:Int)) [] (vs++[x]):=by
     unfold zfa
     rw[e,if_neg (by simp),hsk,if_neg (by simp only[Bool.false_eq_true,if_false];omega),if_neg (by simp)]
    rw[e2]
    refine⟨fun h=> ?_,fun h=>ih.2 fun hh=>h ⟨by omega,by omega⟩⟩
    rw[ih.1 ⟨by omega,by omega⟩,List.append_assoc]
    congr 3
    omega
   ·have e:=hv.2 hfit
    refine⟨fun h=>absurd ⟨by omega,by omega⟩ hfit,fun _=> ?_⟩
    unfold zfa
    rw[if_pos e];exact e
  cases first with
  |true=>
   rw[zam,if_pos rfl,if_neg (by simp),List.nil_append,List.nil_append]at ha⊢
   rw[List.append_assoc]at ha
   have hb:=zdg (zhp hx (At.app.1 ha).1)
   rw[zat,if_neg (by simp;omega),if_pos rfl]
   unfold zfg
   rw[if_neg (by simp)]
   have:=hitem i ha
   rwa [List.length_append,←Nat.add_assoc]
  |false=>
   rw[zam,if_neg (by simp),if_neg (by simp),List.nil_append,List.append_assoc]at ha
   rw[zam,if_neg (by simp),if_neg (by simp),List.nil_append]
   obtain⟨h44,ha2⟩:=At.one (r:=zao x++zam false false r k.tail++[93]) ha
   rw[List.append_assoc]at ha2
   have hb:=zdg (zhp hx (At.app.1 ha2).1)
   have hsk:zaW l (i+1)=i+1:=zbu hb.1
   rw[zat,if_neg (by simp;omega),if_neg (by simp),if_neg (by omega),hsk]
   unfold zfg
   rw[if_neg (by simp)]
   have:=hitem (i+1) ha2
   have hl:([44]++(zao x++zam false false r k.tail):List Int).length=1+(zao x).length+(zam false false r k.tail).length:=by simp;omega
   rwa [hl,←Nat.add_assoc,←Nat.add_assoc]
def MemT (l:List Int) (d:Nat) (val:Nat→Int→VR):Bool→Nat→List (ByteArray×J)→Nat→Prop
 |_,i,[],e=>i=e∧atL l e=125
 |first,i,(t,x)::r,e=> ∃i1 i2,(if first=true then i1=i else atL l i=44∧i1=zaW l (i+1))∧utfS t=true∧At l i1 (zar (strL t))∧atL l (zaW l (i1+(zar (strL t)).length))=58∧
   i2=zaW l (zaW l (i1+(zar (strL t)).length)+1)∧Reads l d x val∧At l i2 (zao x)∧isD (atL l (i2+(zao x).length))=false∧MemT l d val false (zaW l (i2+(zao x).length)) r e
theorem MemT.next {l:List Int} {d:Nat} {val:Nat→Int→VR} {i e:Nat} {ms:List (ByteArray×J)} (h:MemT l d val false i ms e):atL l i=44∨atL l i=125:=by
 cases ms with
 |nil=>obtain⟨rfl,h⟩:=h;exact .inr h
 |cons m r=>obtain⟨i1,i2,h,_⟩:=h;rw[if_neg (by simp)]at h;exact .inl h.1
theorem zlZ {t:ByteArray} {l:List Int} {i:Nat} (hu:utfS t=true) (h:At l i (zar (strL t))):zan l i=(strL t,i+(zar (strL t)).length,0):=quoted_at (zaz t) (utf_of hu) h
def putsF (ms:List (ByteArray×J)) (a:List ByteArray×List J):List ByteArray×List J:=ms.foldl (fun a m=>zca m.1 m.2 false a.1 a.2) a
theorem obj_back (l:List Int) (d:Nat) (val:Nat→Int→VR): ∀(ms:List (ByteArray×J)) (f:Nat) (first:Bool) (i e:Nat) (left:Int) (ks:List ByteArray) (vs:List J),MemT l d val first i ms e→(first=true→ms≠[]→atL l i=34)→ms.length<f→0≤left→(∀m∈ms,hasK ks m.1=false)→(ms.map Prod.fst).Nodup→
  ((szLs (ms.map Prod.snd):Int)≤left∧dpLs (ms.map Prod.snd)≤d→zat l val true f first i left ks vs=(.mk 5 0 ⟨#[]⟩ (putsF ms (ks,vs)).2 (putsF ms (ks,vs)).1,zaW l (e+1),left-(szLs (ms.map Prod.snd):Int),0))∧
  (¬((szLs (ms.map Prod.snd):Int)≤left∧dpLs (ms.map Prod.snd)≤d)→(zat l val true f first i left ks vs).2.2.2≠0)
 |_,0,_,_,_,_,_,_,_,_,hf,_,_,_=>absurd hf (Nat.not_lt_zero _)
 |[],f+1,first,i,e,left,ks,vs,hm,_,_,h0,_,_=>by
  obtain⟨rfl,h125⟩:=hm
  rw[zat,if_pos (by simpa using h125),List.map_nil,szLs,dpLs]
  exact⟨fun _=>by simp[putsF],fun h=>absurd ⟨by simpa using h0,Nat.zero_le _⟩ h⟩
 |(t,x)::r,f+1,first,i,e,left,ks,vs,hm,h34,hf,h0,hks,hnd=>by
  obtain⟨i1,i2,hi1,hu,hq,h58,hi2,hrd,hat,hnd2,hrest⟩:=hm
  have hqt:=zlZ hu hq
  have hh:hasK ks t=false:=hks (t,x) (by simp)
  rw[List.map_cons,List.nodup_cons]at hnd
  have hv:=hrd i2 left h0 hat hnd2
  have hnx:=hrest.next
  rw[show((t,x)::r).map Prod.snd=x::r.map Prod.snd from rfl]
  have hmemb:((szLs (x::r.map Prod.snd):Int)≤left∧dpLs (x::r.map Prod.snd)≤d→zfg l val true (zat l val true f false) i1 left ks vs=(.mk 5 0 ⟨#[]⟩ (putsF ((t,x)::r) (ks,vs)).2 (putsF ((t,x)::r) (ks,vs)).1,zaW l (e+1),left-(szLs (x::r.map Prod.snd):Int),0))∧
    (¬((szLs (x::r.map Prod.snd):Int)≤left∧dpLs (x::r.map Prod.snd)≤d)→(zfg l val true (zat l val true f false) i1 left ks vs).2.2.2≠0):=by
   have e1:zfg l val true (zat l val true f false) i1 left ks vs=zfa l val true (zat l val true f false) i2 left t ks vs:=by
    unfold zfg
    rw[hqt,if_pos rfl,if_neg (by simp)]
    simp only[]
    rw[zin,hh,if_neg (by simp),if_neg (fun h=>h h58),←hi2]
   rw[e1,szLs,dpLs]
   by_cases hfit:Fits x left d
   ·have e2:=hv.1 hfit
    obtain⟨f1,f2⟩:=hfit
    have hks2: ∀m∈r,hasK (zca t x false ks vs).1 m.1=false:=fun m hm=>by
     rw[znj,if_neg (fun e=>hnd.1 (by rw[show(t,x).1=m.1 from e];exact List.mem_map_of_mem hm))]
     exact hks m (List.mem_cons_of_mem _ hm)
    have ih:=obj_back l d val r f false (zaW l (i2+(zao x).length)) e (left-(szJ x:Int)) (zca t x false ks vs).1 (zca t x false ks vs).2 hrest (fun h=>by cases h) (by simp at hf;omega) (by omega) hks2 hnd.2
    have e3:zfa l val true (zat l val true f false) i2 left t ks vs=zat l val true f false (zaW l (i2+(zao x).length)) (left-(szJ x:Int)) (zca t x false ks vs).1 (zca t x false ks vs).2:=by
     unfold zfa
     rw[e2,if_neg (by simp),if_neg (by simp only[if_true];omega),if_pos rfl]
    rw[e3]
    refine⟨fun h=> ?_,fun h=>ih.2 fun hh=>h ⟨by omega,by omega⟩⟩
    rw[ih.1 ⟨by omega,by omega⟩]
    have e4:putsF ((t,x)::r) (ks,vs)=putsF r ((zca t x false ks vs).1,(zca t x false ks vs).2):=rfl
    rw[e4]
    congr 3
    omega
   ·have e2:=hv.2 hfit
    refine⟨fun h=>absurd ⟨by omega,by omega⟩ hfit,fun _=> ?_⟩
    unfold zfa
    rw[if_pos e2];exact e2
  cases first with
  |true=>
   rw[if_pos rfl]at hi1
   subst hi1
   have:=h34 rfl (by simp)
   rw[zat,if_neg (by simp;omega),if_pos rfl]
   exact hmemb
  |false=>
   rw[if_neg (by simp)]at hi1
   obtain⟨h44,rfl⟩:=hi1
   rw[zat,if_neg (by simp;omega),if_neg (by simp),if_neg (by omega)]
   exact hmemb
theorem zmx: ∀(k:List ByteArray) (p:Option ByteArray),rnL p k=true→k.Pairwise (fun a b=>Op.bytesLess a.toList b.toList=true)∧(∀q,p=some q→ ∀t∈k,Op.bytesLess q.toList t.toList=true)∧ ∀t∈k,utfS t=true
 |[],p,_=>⟨List.Pairwise.nil,fun _ _ t ht=>(by cases ht),fun t ht=>(by cases ht)⟩
 |t::r,p,h=>by
  rw[zdm,Bool.and_eq_true,Bool.and_eq_true]at h
  obtain⟨⟨h1,h2⟩,h3⟩:=h
  obtain⟨i1,i2,i3⟩:=zmx r (some t) h3
  refine⟨List.pairwise_cons.2 ⟨fun y hy=>i2 t rfl y hy,i1⟩,fun q hq y hy=> ?_,fun y hy=> ?_⟩
  ·subst hq
   rcases List.mem_cons.1 hy with rfl|hy
   ·exact h2
   ·exact zeo _ _ _ h2 (i2 t rfl y hy)
  ·rcases List.mem_cons.1 hy with rfl|hy
   ·exact h1
   ·exact i3 y hy
theorem zip_rises {k:List ByteArray} {ls:List J} (hl:k.length=ls.length) (h:rnL none k=true):Rises (k.zip ls)∧((k.zip ls).map Prod.fst).Nodup∧(k.zip ls).map Prod.fst=k∧(k.zip ls).map Prod.snd=ls:=by
 have e1:(k.zip ls).map Prod.fst=k:=List.map_fst_zip (by omega)
 have e2:(k.zip ls).map Prod.snd=ls:=List.map_snd_zip (by omega)
 obtain⟨h1,_,_⟩:=zmx k none h
 refine⟨?_,?_,e1,e2⟩
 ·unfold Rises
  have:=h1
  rw[←e1]at this
  exact List.pairwise_map.1 this
 ·rw[e1]
  refine h1.imp fun {a b} hab e=> ?_
  subst e
  rw[zfn]at hab;cases hab
theorem mem_at (l:List Int) (d:Nat) (val:Nat→Int→VR): ∀(ls:List J) (k:List ByteArray),k.length=ls.length→(∀t∈k,utfS t=true)→(∀x∈ls,Rt x∧Reads l d x val)→ ∀(first:Bool) (i:Nat),At l i (zam true first ls k++[125])→
  MemT l d val first i (k.zip ls) (i+(zam true first ls k).length)∧(first=true→ls≠[]→atL l i=34)
 |[],k,hl,_,_,first,i,ha=>by
  obtain rfl:k=[]:=List.eq_nil_of_length_eq_zero hl
  rw[zam]at ha⊢
  exact⟨⟨rfl,(At.one (r:=[]) ha).1⟩,fun _ h=>absurd rfl h⟩
 |x::r,[],hl,_,_,_,_,_=>by cases hl
 |x::r,t::k,hl,hu,hall,first,i,ha=>by
  obtain⟨hx,hrd⟩:=hall x (by simp)
  obtain⟨cn,rn,hn,hcn⟩: ∃c q,zam true false r k++[125]=c::q∧(c=44∨c=125):=by
   cases r with
   |nil=>exact⟨125,[],by rw[zam];rfl,.inr rfl⟩
   |cons y r=>rw[zam,if_neg (by simp)];exact⟨_,_,rfl,.inl rfl⟩
  have main: ∀i1:Nat,At l i1 (zar (strL t)++([58]++(zao x++(zam true false r k++[125]))))→
    atL l i1=34∧At l i1 (zar (strL t))∧atL l (zaW l (i1+(zar (strL t)).length))=58∧ ∃i2,i2=zaW l (zaW l (i1+(zar (strL t)).length)+1)∧At l i2 (zao x)∧isD (atL l (i2+(zao x).length))=false∧MemT l d val false (zaW l (i2+(zao x).length)) (k.zip r) (i1+(zar (strL t)).length+1+(zao x).length+(zam true false r k).length):=fun i1 h=>by
   obtain⟨q1,q2⟩:=At.app.1 h
   obtain⟨q3,q4⟩:=At.one (r:=zao x++(zam true false r k++[125])) q2
   obtain⟨q5,q6⟩:=At.app.1 q4
   have hq0:=q1
   rw[zen]at hq0
   have s1:zaW l (i1+(zar (strL t)).length)=i1+(zar (strL t)).length:=zbu (noB_of (by rw[q3];omega))
   have s2:zaW l (i1+(zar (strL t)).length+1)=i1+(zar (strL t)).length+1:=zbu (zdg (zhp hx q5)).1
   have q7:=q6
   rw[hn]at q7
   have hc:=q7.one.1
   have s3:zaW l (i1+(zar (strL t)).length+1+(zao x).length)=i1+(zar (strL t)).length+1+(zao x).length:=zbu (noB_of (by rw[hc];omega))
   refine⟨hq0.one.1,q1,by rw[s1];exact q3,_,rfl,?_⟩
   rw[s1,s2]
   refine⟨q5,noD_of (by rw[hc];omega),?_⟩
   rw[s3]
   exact(mem_at l d val r k (by simpa using hl) (fun y hy=>hu y (List.mem_cons_of_mem _ hy)) (fun y hy=>hall y (List.mem_cons_of_mem _ hy)) false _ q6).1
  rw[zam,if_pos rfl]at ha⊢
  simp only[List.headD_cons,List.tail_cons,List.append_assoc]at ha⊢
  cases first with
  |true=>
   rw[if_pos rfl,List.nil_append]at ha⊢
   obtain⟨m0,m1,m2,i2,m3,m4,m5,m6⟩:=main i ha
   refine⟨⟨i,i2,by rw[if_pos rfl],hu t (by simp),m1,m2,m3,hrd,m4,m5,?_⟩,fun _ _=>m0⟩
   have hl:(zar (strL t)++([58]++(zao x++zam true false r k)):List Int).length=(zar (strL t)).length+1+(zao x).length+(zam true false r k).length:=by simp;omega
   rwa [hl,←Nat.add_assoc,←Nat.add_assoc,←Nat.add_assoc]
  |false=>
   rw[if_neg (by simp)]at ha⊢
   obtain⟨h44,ha2⟩:=At.one (r:=zar (strL t)++([58]++(zao x++(zam true false r k++[125])))) ha
   obtain⟨m0,m1,m2,i2,m3,m4,m5,m6⟩:=main (i+1) ha2
   refine⟨⟨i+1,i2,by rw[if_neg (by simp)];exact⟨h44,(zbu (noB_of (by rw[m0];omega))).symm⟩,hu t (by simp),m1,m2,m3,hrd,m4,m5,?_⟩,fun h=>by cases h⟩
   have hl:([44]++(zar (strL t)++([58]++(zao x++zam true false r k))):List Int).length=1+(zar (strL t)).length+1+(zao x).length+(zam true false r k).length:=by simp;omega
   rwa [hl,←Nat.add_assoc,←Nat.add_assoc,←Nat.add_assoc,←Nat.add_assoc]
theorem zkV (o:Bool): ∀(ls:List J) (f:Bool) (k:List ByteArray),(∀x∈ls,Rt x)→ls.length≤(zam o f ls k).length
 |[],_,_,_=>Nat.zero_le _
 |x::r,f,k,h=>by
  obtain⟨c,q,e,_⟩:=zlX (h x (by simp))
  have:=zkV o r false k.tail (fun y hy=>h y (List.mem_cons_of_mem _ hy))
  rw[zam,e]
  simp only[List.length_append,List.length_cons]
  omega
theorem prL_first (n:Int): ∃c r,prL n=c::r∧(c=45∨(48≤c∧c≤57)):=by
 have hd: ∀m:Nat,∃c r,digL m=c::r∧48≤c∧c≤57:=fun m=>by
  cases hm:digL m with
  |nil=>exact absurd hm (ziQ m)
  |cons c r=>exact⟨c,r,rfl,zcr m c (by rw[hm];simp)⟩
 unfold prL
 split
 ·exact⟨_,_,rfl,.inl rfl⟩
 ·obtain⟨c,r,e,x,y⟩:=hd n.natAbs
  exact⟨c,r,e,.inr ⟨x,y⟩⟩
theorem zhr {l:List Int} {i:Nat} {c:Int} (h:atL l i=c) (hc: ¬isB c=true):zaW l i=i:=zbu (by rw[h];exact hc)
theorem value_back (j:J):Rt j→ ∀(l:List Int) (d:Nat),Reads l d j (valueL l d):=by
 induction j using J.ind with
 |h kind n s ls k ih=>
  intro hr l d i left h0 ha hnd
  have hb:=zhp hr ha
  cases hr with
  |mk _ _ _ _ _ a1 a2 a3 a4=>
  obtain⟨M,hM,hM0,hM1⟩: ∃M,valueL l d=valF l M∧(d=0→ ∀i left,(M i left).2.2.2≠0)∧(∀d',d=d'+1→M=zfK l (valueL l d')):=by
   cases d with
   |zero=>exact⟨_,valueL.eq_1 l,fun _ i left=>(by show(51:Int)≠0;decide),fun d' h=>(by cases h)⟩
   |succ d=>exact⟨_,valueL.eq_2 l d,fun h=>(by cases h),fun d' h=>by injection h with h;subst h;rfl⟩
  rw[hM]
  by_cases hleft:left-1<0
  ·refine VB.bad (fun h=>by have:=h.1;have:=szJ_pos (.mk kind n s ls k);omega) ?_
   unfold valF
   rw[if_neg (by rw[hb];simp),if_pos hleft]
   show(53:Int)≠0
   decide
  have leaf:kind≠4→kind≠5→ls=[]∧k=[]∧Fits (.mk kind n s ls k) left d∧(szJ (.mk kind n s ls k):Int)=1:=fun h4 h5=>by
   obtain⟨p,q⟩:=clean_l a1 h4 h5
   obtain rfl:=List.eq_nil_of_length_eq_zero p
   obtain rfl:=List.eq_nil_of_length_eq_zero q
   have e:szJ (.mk kind n s [] [])=1:=by rw[szJ,szLs]
   refine⟨rfl,rfl,⟨by rw[e];omega,?_⟩,by rw[e];rfl⟩
   rw[dpJ,if_neg (fun h=>h.elim h4 h5)];exact Nat.zero_le _
  have fin: ∀{j:J} {p q:Nat},p=q→((j,zaW l p,left-1,(0:Int)):VR)=(j,zaW l q,left-1,0):=fun h=>by rw[h]
  rcases a3 with a|a|a
  ·
   subst a
   obtain rfl:=znu a1 (by decide) (by decide)
   obtain rfl:=zkh a1 (by decide)
   obtain rfl:k=[]:=List.eq_nil_of_length_eq_zero (clean_q a1 (by decide))
   have ht:zao (.mk 4 0 ⟨#[]⟩ ls [])=[91]++(zam false true ls []++[93]):=by rw[zao];rfl
   rw[ht]at ha
   obtain⟨h91,ha2⟩:=At.one (r:=zam false true ls []++[93]) ha
   have hval:valF l M i left=M i (left-1):=by
    unfold valF
    rw[h91,if_neg (by decide),if_neg hleft,if_neg (by decide),if_neg (by decide),if_neg (by decide),if_neg (by decide),if_neg (by decide)]
   rw[hval]
   cases d with
   |zero=>exact VB.bad (fun h=>by have:=h.2;rw[dpJ,if_pos (.inl rfl)]at this;omega) (hM0 rfl _ _)
   |succ d=>
    rw[hM1 d rfl]
    have hsk:zaW l (i+1)=i+1:=by
     cases ls with
     |nil=>exact zhr (At.one (r:=[]) ha2).1 (by decide)
     |cons x r=>
      rw[zam,if_pos rfl,if_neg (by simp),List.nil_append,List.nil_append,List.append_assoc]at ha2
      exact zhr rfl (zdg (zhp (a4 x (by simp)) (At.app.1 ha2).1)).1
    have hlen:=ha2.le (by simp)
    have hil:=zkV false ls true [] a4
    rw[List.length_append,List.length_singleton]at hlen
    have hmb:=many_back l d (valueL l d) ls (fun x hx=>⟨a4 x hx,ih x hx (a4 x hx) l d⟩) (l.length+1) true (i+1) (left-1) [] [] (by omega) (by omega) ha2
    have e1:zfK l (valueL l d) i (left-1)=zat l (valueL l d) false (l.length+1) true (i+1) (left-1) [] []:=by
     unfold zfK
     rw[h91,hsk];rfl
    rw[e1,ht]
    have hfit:Fits (.mk 4 0 ⟨#[]⟩ ls []) left (d+1)↔((szLs ls:Int)≤left-1∧dpLs ls≤d):=by
     unfold Fits
     rw[szJ,dpJ,if_pos (.inl rfl)]
     constructor<;>rintro⟨p,q⟩<;>exact⟨by omega,by omega⟩
    refine⟨fun h=> ?_,fun h=>hmb.2 (fun hh=>h (hfit.2 hh))⟩
    rw[hmb.1 (hfit.1 h),szJ,List.nil_append]
    rw[show i+1+(zam false true ls []).length+1=i+([91]++(zam false true ls []++[93])).length by simp;omega]
    congr 3
    omega
  ·
   subst a
   obtain rfl:=znu a1 (by decide) (by decide)
   obtain rfl:=zkh a1 (by decide)
   obtain⟨hkl,hrn⟩:=a2 rfl
   obtain⟨hri,hnd2,hz1,hz2⟩:=zip_rises hkl hrn
   have ht:zao (.mk 5 0 ⟨#[]⟩ ls k)=[123]++(zam true true ls k++[125]):=by rw[zao];rfl
   rw[ht]at ha
   obtain⟨h123,ha2⟩:=At.one (r:=zam true true ls k++[125]) ha
   have hval:valF l M i left=M i (left-1):=by
    unfold valF
    rw[h123,if_neg (by decide),if_neg hleft,if_neg (by decide),if_neg (by decide),if_neg (by decide),if_neg (by decide),if_neg (by decide)]
   rw[hval]
   cases d with
   |zero=>exact VB.bad (fun h=>by have:=h.2;rw[dpJ,if_pos (.inr rfl)]at this;omega) (hM0 rfl _ _)
   |succ d=>
    rw[hM1 d rfl]
    obtain⟨hme,h34⟩:=mem_at l d (valueL l d) ls k hkl (zmx k none hrn).2.2 (fun x hx=>⟨a4 x hx,ih x hx (a4 x hx) l d⟩) true (i+1) ha2
    have hsk:zaW l (i+1)=i+1:=by
     cases ls with
     |nil=>exact zhr (At.one (r:=[]) ha2).1 (by decide)
     |cons x r=>exact zhr (h34 rfl (by simp)) (by decide)
    have hlen:=ha2.le (by simp)
    have hil:=zkV true ls true k a4
    rw[List.length_append,List.length_singleton]at hlen
    have hmb:=obj_back l d (valueL l d) (k.zip ls) (l.length+1) true (i+1) _ (left-1) [] [] hme (fun _ hne=>h34 rfl (fun e=>hne (by rw[e];exact List.zip_nil_right))) (by rw[List.length_zip];omega) (by omega) (fun _ _=>rfl) hnd2
    have e1:zfK l (valueL l d) i (left-1)=zat l (valueL l d) true (l.length+1) true (i+1) (left-1) [] []:=by
     unfold zfK
     rw[h123,hsk];rfl
    have hpt:putsF (k.zip ls) ([],[])=(k,ls):=by
     have:=zhW hnd2 (List.Perm.refl _) hri
     rw[hz1,hz2]at this
     exact this
    rw[hz2,hpt]at hmb
    rw[e1,ht]
    have hfit:Fits (.mk 5 0 ⟨#[]⟩ ls k) left (d+1)↔((szLs ls:Int)≤left-1∧dpLs ls≤d):=by
     unfold Fits
     rw[szJ,dpJ,if_pos (.inr rfl)]
     constructor<;>rintro⟨p,q⟩<;>exact⟨by omega,by omega⟩
    refine⟨fun h=> ?_,fun h=>hmb.2 (fun hh=>h (hfit.2 hh))⟩
    rw[hmb.1 (hfit.1 h),szJ]
    rw[show i+1+(zam true true ls k).length+1=i+([123]++(zam true true ls k++[125])).length by simp;omega]
    congr 3
    omega
  ·have hk:=zkZ a
   obtain⟨e1,e2,hfit,hsz⟩:=leaf (by omega) (by omega)
   subst e1;subst e2
   refine VB.good hfit ?_
   rw[hsz]
   rcases hk with rfl|rfl|rfl|rfl
   ·obtain rfl:=znu a1 (by decide) (by decide)
    obtain rfl:=zkh a1 (by decide)
    have ht:zao (.mk 0 0 ⟨#[]⟩ [] [])=[110,117,108,108]:=by rw[zao];rfl
    rw[ht]at ha⊢
    have hc:=ha.one.1
    unfold valF
    rw[hc,if_neg (by decide),if_neg hleft,if_neg (by decide),if_pos rfl,zil _ _ ha]
    rfl
   ·obtain rfl:=zkh a1 (by decide)
    have hn:n=0∨n=1:=by
     unfold zdz at a
     rw[if_neg (by decide),if_pos rfl,Bool.or_eq_true,decide_eq_true_eq,decide_eq_true_eq]at a
     exact a
    rcases hn with rfl|rfl
    ·have ht:zao (.mk 1 0 ⟨#[]⟩ [] [])=[102,97,108,115,101]:=by rw[zao];rfl
     rw[ht]at ha⊢
     have hc:=ha.one.1
     unfold valF
     rw[hc,if_neg (by decide),if_neg hleft,if_neg (by decide),if_neg (by decide),if_neg (by decide),if_pos rfl,zil _ _ ha]
     rfl
    ·have ht:zao (.mk 1 1 ⟨#[]⟩ [] [])=[116,114,117,101]:=by rw[zao];rfl
     rw[ht]at ha⊢
     have hc:=ha.one.1
     unfold valF
     rw[hc,if_neg (by decide),if_neg hleft,if_neg (by decide),if_neg (by decide),if_pos rfl,zil _ _ ha]
     rfl
   ·obtain rfl:=zkh a1 (by decide)
    have hn: -9007199254740991≤n∧n≤9007199254740991:=by
     unfold zdz at a
     rw[if_neg (by decide),if_neg (by decide),if_pos rfl,Bool.and_eq_true,decide_eq_true_eq,decide_eq_true_eq]at a
     exact a
    have ht:zao (.mk 2 n ⟨#[]⟩ [] [])=prL n:=by rw[zao];rfl
    rw[ht]at ha hnd⊢
    obtain⟨l1,l2⟩:=lead_at ha (form_prL n) hnd
    obtain⟨c,r,e,hc⟩:=prL_first n
    have hpos:(prL n).length≠0:=by rw[e];simp
    have hat:atL l i=c:=by rw[e]at ha;exact ha.one.1
    unfold valF
    rw[if_neg (by rw[hb];simp),if_neg hleft,if_pos (by rw[hat];exact hc),l1,if_neg hpos,l2,numL_prL,if_pos (by unfold fitL;rw[numL_prL,decide_eq_true_eq];omega)]
   ·obtain rfl:=znu a1 (by decide) (by decide)
    have hu:utfS s=true:=by
     unfold zdz at a
     rw[if_neg (by decide),if_neg (by decide),if_neg (by decide),if_pos rfl]at a
     exact a
    have ht:zao (.mk 3 0 s [] [])=zar (strL s):=by rw[zao];rfl
    rw[ht]at ha⊢
    have hc:atL l i=34:=by rw[zen]at ha;exact ha.one.1
    unfold valF
    rw[hc,if_neg (by decide),if_neg hleft,if_neg (by decide),if_neg (by decide),if_neg (by decide),if_neg (by decide),if_pos rfl,zlZ hu ha]
    unfold zdh
    rw[if_neg (by simp),zin]
end Go.Proofs.YtceddodfddlncaaGreatDoor
