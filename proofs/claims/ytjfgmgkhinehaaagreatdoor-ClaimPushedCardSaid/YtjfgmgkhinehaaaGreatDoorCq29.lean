
import Derived.Sort.Lot0
import Derived.Deep.CutBlock
import Derived.Deep.CutRange
import Derived.Test.YtjfgmgkhinehaaaGreatDoorCq28
set_option maxRecDepth 100000
set_option maxHeartbeats 16000000
set_option linter.all false
namespace Go.Proofs.YtjfgmgkhinehaaaGreatDoor
open Go Go.Sort
variable {α:Type} [Inhabited α]
theorem SWO.le {lt:α→α→Bool} {a m:Nat} {d:Array α} (hS:SWO lt) (h:SortedIn lt a m d) {i j:Nat} (hi:a≤i) (hij:i≤j) (hj:j<m):lt d[j]! d[i]! =false:=by
 by_cases e:i=j
 ·subst e;exact hS.irrefl _
 ·exact h i j hi (by omega) hj
theorem SWO.asymm {lt:α→α→Bool} (hS:SWO lt) {x y:α} (h:lt x y=true):lt y x=false:=by
 cases hyx:lt y x with
 |false=>rfl
 |true=>have:=hS.trans _ _ _ h hyx;rw[hS.irrefl]at this;cases this
def Rot (d d':Array α) (s m e:Nat):Prop:=
 (∀i,i<s∨e≤i→d'[i]! =d[i]!)∧(∀i,s≤i→i<s+(e-m)→d'[i]! =d[m+(i-s)]!)∧(∀i,s+(e-m)≤i→i<e→d'[i]! =d[i-(e-m)]!)
theorem Rot.none (d:Array α) {s m e:Nat} (hs:s≤m) (he:m≤e) (h:s=m∨m=e):Rot d d s m e:=
 ⟨fun _ _=>rfl,fun i h1 h2=>by congr 1;omega,fun i h1 h2=>by congr 1;omega⟩
theorem sym_part {lt:α→α→Bool} (hS:SWO lt) {d d':Array α} {a m b mid s e:Nat} (ha:a≤s) (hs:s≤m) (hm:m≤e) (he:e≤b) (hmid:s+e=mid+m) (h1:SortedIn lt a m d) (h2:SortedIn lt m b d)
  (hlo:a<s→e<b→lt d[e]! d[s-1]! =false) (hhi:s<m→m<e→lt d[e-1]! d[s]! =true) (hr:Rot d d' s m e):
  SortedIn lt a s d'∧SortedIn lt s mid d'∧SortedIn lt mid e d'∧SortedIn lt e b d'∧ ∀x y,a≤x→x<mid→mid≤y→y<b→lt d'[y]! d'[x]! =false:=by
 obtain⟨r1,r2,r3⟩:=hr
 refine⟨fun i j hi hij hj=> ?_,fun i j hi hij hj=> ?_,fun i j hi hij hj=> ?_,fun i j hi hij hj=> ?_,fun x y hx hxm hy hyb=> ?_⟩
 ·rw[r1 i (.inl (by omega)),r1 j (.inl hj)];exact h1 i j hi hij (by omega)
 ·rw[r2 i hi (by omega),r2 j (by omega) (by omega)];exact h2 _ _ (by omega) (by omega) (by omega)
 ·rw[r3 i (by omega) (by omega),r3 j (by omega) (by omega)];exact h1 _ _ (by omega) (by omega) (by omega)
 ·rw[r1 i (.inr (by omega)),r1 j (.inr (by omega))];exact h2 i j (by omega) hij hj
 ·by_cases hxs:x<s
  ·rw[r1 x (.inl hxs)]
   by_cases hye:y<e
   ·rw[r3 y (by omega) hye];exact h1 _ _ hx (by omega) (by omega)
   ·rw[r1 y (.inr (by omega))]
    have e1:=SWO.le hS h2 (i:=e) (j:=y) hm (by omega) hyb
    have e2:=hlo (by omega) (by omega)
    have e3:=SWO.le hS h1 (i:=x) (j:=s-1) hx (by omega) (by omega)
    exact hS.ntrans _ _ _ (hS.ntrans _ _ _ e1 e2) e3
  ·rw[r2 x (by omega) (by omega)]
   by_cases hye:y<e
   ·rw[r3 y (by omega) hye]
    have e1:=SWO.le hS h1 (i:=s) (j:=y-(e-m)) ha (by omega) (by omega)
    have e2:=SWO.asymm hS (hhi (by omega) (by omega))
    have e3:=SWO.le hS h2 (i:=m+(x-s)) (j:=e-1) (by omega) (by omega) (by omega)
    exact hS.ntrans _ _ _ (hS.ntrans _ _ _ e1 e2) e3
   ·rw[r1 y (.inr (by omega))]
    exact h2 _ _ (by omega) (by omega) hyb
theorem merge_glue {lt:α→α→Bool} {d0 d1 d2:Array α} {a mid b:Nat} (ha:a≤mid) (hb:mid≤b) (hsz:b≤d0.size) (hx: ∀x y,a≤x→x<mid→mid≤y→y<b→lt d0[y]! d0[x]! =false)
  (p1:PermIn a mid d0 d1) (s1:SortedIn lt a mid d1) (p2:PermIn mid b d1 d2) (s2:SortedIn lt mid b d2):PermIn a b d0 d2∧SortedIn lt a b d2:=by
 refine⟨permIn_trans _ _ _ _ _ (permIn_mono _ _ _ _ _ _ (Nat.le_refl _) hb hsz p1) (permIn_mono _ _ _ _ _ _ ha (Nat.le_refl _) (by rw[p1.1];exact hsz) p2),fun i j hi hij hj=> ?_⟩
 by_cases hjm:j<mid
 ·rw[p2.2.1 i (.inl (by omega)),p2.2.1 j (.inl hjm)];exact s1 i j hi hij hjm
 ·by_cases him:i<mid
  ·rw[p2.2.1 i (.inl him)]
   have q1: ∀x,a≤x→x<mid→ ∀y,mid≤y→y<b→lt d0[y]! d1[x]! =false:=
    permIn_all d0 d1 a mid (fun v=> ∀y,mid≤y→y<b→lt d0[y]! v=false) (by omega) p1 (fun x h1 h2 y h3 h4=>hx x y h1 h2 h3 h4)
   have q2: ∀y,mid≤y→y<b→lt d2[y]! d1[i]! =false:=
    permIn_all d1 d2 mid b (fun v=>lt v d1[i]! =false) (by rw[p1.1];exact hsz) p2 (fun y h3 h4=>by rw[p1.2.1 y (.inr h3)];exact q1 i hi him y h3 h4)
   exact q2 j (by omega) hj
  ·exact s2 i j (by omega) hij hj
theorem swo_cmpM_of (h0: ∀x y:List UInt8,Lib.compareBytes x y<0↔Op.bytesLess x y=true) (hS:SWO (fun x y:List UInt8=>Op.bytesLess x y)):SWO (ltOf cmpM):=by
 have e: ∀x y:MT,ltOf cmpM x y=Op.bytesLess x.nm.data.toList y.nm.data.toList:=fun x y=>by
  unfold ltOf cmpM
  cases h:Op.bytesLess x.nm.data.toList y.nm.data.toList with
  |true=>exact decide_eq_true ((h0 _ _).2 h)
  |false=>exact decide_eq_false (fun hh=>by rw[(h0 _ _).1 hh]at h;cases h)
 exact⟨fun x=>by rw[e];exact hS.irrefl _,fun x y z=>by rw[e,e,e];exact hS.trans _ _ _,fun x y z=>by rw[e,e,e];exact hS.ntrans _ _ _⟩
theorem zei: ∀a b:List UInt8,Lib.compareBytes a b<0↔Op.bytesLess a b=true
 |[],[]=>by simp[Lib.compareBytes,Op.bytesLess]
 |[],_::_=>by simp[Lib.compareBytes,Op.bytesLess]
 |_::_,[]=>by simp[Lib.compareBytes,Op.bytesLess]
 |a::xs,b::ys=>by
  rw[Lib.compareBytes,Op.bytesLess]
  by_cases h:a<b
  ·simp[h]
  ·rw[if_neg h]
   by_cases h2:b<a
   ·rw[if_pos h2]
    have:a≠b:=fun e=>by subst e;exact absurd h2 h
    simp[h,this]
   ·rw[if_neg h2]
    have:a=b:=UInt8.le_antisymm (UInt8.not_lt.1 h2) (UInt8.not_lt.1 h)
    subst this
    rw[zei xs ys]
    simp[h]
theorem zev: ∀x y z:List UInt8,Op.bytesLess x y=true→Op.bytesLess y z=true→Op.bytesLess x z=true
 |x,[],z,h,_=>by cases x<;>simp[Op.bytesLess]at h
 |x,b::y,[],_,h=>by simp[Op.bytesLess]at h
 |[],b::y,c::z,_,_=>rfl
 |a::x,b::y,c::z,h1,h2=>by
  simp only[Op.bytesLess,Bool.or_eq_true,decide_eq_true_eq,Bool.and_eq_true,beq_iff_eq]at h1 h2⊢
  rcases h1 with h1|⟨rfl,h1⟩
  ·rcases h2 with h2|⟨rfl,h2⟩
   ·exact .inl (UInt8.lt_trans h1 h2)
   ·exact .inl h1
  ·rcases h2 with h2|⟨rfl,h2⟩
   ·exact .inl h2
   ·exact .inr ⟨rfl,zev x y z h1 h2⟩
theorem zke: ∀x y z:List UInt8,Op.bytesLess x y=false→Op.bytesLess y z=false→Op.bytesLess x z=false
 |x,y,[],_,_=>by cases x<;>rfl
 |x,[],c::z,_,h=>by simp[Op.bytesLess]at h
 |[],b::y,c::z,h,_=>by simp[Op.bytesLess]at h
 |a::x,b::y,c::z,h1,h2=>by
  cases h:Op.bytesLess (a::x) (c::z)with
  |false=>rfl
  |true=>
   exfalso
   simp only[Op.bytesLess,Bool.or_eq_true,decide_eq_true_eq,Bool.and_eq_true,beq_iff_eq]at h
   have n1: ¬a<b:=fun e=>by simp[Op.bytesLess,e]at h1
   have n2: ¬b<c:=fun e=>by simp[Op.bytesLess,e]at h2
   have l1:=UInt8.not_lt.1 n1
   have l2:=UInt8.not_lt.1 n2
   rcases h with h|⟨rfl,h⟩
   ·exact absurd (UInt8.le_trans l2 l1) (UInt8.not_le.2 h)
   ·have e:b=a:=UInt8.le_antisymm l1 l2
    subst e
    have m1:Op.bytesLess x y=false:=by simpa[Op.bytesLess]using h1
    have m2:Op.bytesLess y z=false:=by simpa[Op.bytesLess]using h2
    rw[zke x y z m1 m2]at h
    cases h
theorem zhq: ∀l:List UInt8,Op.bytesLess l l=false
 |[]=>rfl
 |a::l=>by simp[Op.bytesLess,zhq l]
theorem swo_cmpM:SWO (ltOf cmpM):=swo_cmpM_of zei ⟨zhq,zev,zke⟩
theorem ltOf_cmpM (x y:MT):ltOf cmpM x y=Op.bytesLess x.nm.toList y.nm.toList:=by
 have e: ∀t:ByteArray,t.toList=t.data.toList:=fun t=>ByteArray.toList_eq t
 unfold ltOf cmpM
 rw[e,e]
 cases h:Op.bytesLess x.nm.data.toList y.nm.data.toList with
 |true=>exact decide_eq_true ((zei _ _).2 h)
 |false=>exact decide_eq_false (fun hh=>by rw[(zei _ _).1 hh]at h;cases h)
def insM (t:ByteArray) (x:J):List (ByteArray×J)→List (ByteArray×J)
 |[]=>[(t,x)]
 |m::r=>if Op.bytesLess m.1.toList t.toList=true then m::insM t x r else(t,x)::m::r
theorem zlw (t:ByteArray) (x:J): ∀r:List (ByteArray×J),(∀m∈r,m.1≠t)→zaw t x true (r.map Prod.fst) (r.map Prod.snd)=(r.map Prod.fst,r.map Prod.snd)
 |[],_=>rfl
 |m::r,h=>by
  have hm: ¬m.1=t:=h m (by simp)
  rw[List.map_cons,List.map_cons,zaw]
  simp only[Bool.true_or,List.tail_cons,List.headD_cons]
  rw[zlw t x r (fun m' h'=>h m' (List.mem_cons_of_mem _ h')),if_neg hm,if_neg (by simp)]
  rfl
theorem zhl (t:ByteArray) (x:J): ∀r:List (ByteArray×J),(∀m∈r,m.1≠t)→zaw t x false (r.map Prod.fst) (r.map Prod.snd)=((insM t x r).map Prod.fst,(insM t x r).map Prod.snd)
 |[],_=>rfl
 |m::r,h=>by
  have hm: ¬m.1=t:=h m (by simp)
  have hr:=fun m' h'=>h m' (List.mem_cons_of_mem _ h')
  rw[List.map_cons,List.map_cons,zaw,insM]
  simp only[Bool.false_or,List.tail_cons,List.headD_cons]
  rw[if_neg hm]
  cases hb:Op.bytesLess m.1.toList t.toList with
  |true=>
   rw[if_neg (by simp),if_pos rfl]
   show([]++[m.1]++(zaw t x false (r.map Prod.fst) (r.map Prod.snd)).1,[]++[m.2]++(zaw t x false (r.map Prod.fst) (r.map Prod.snd)).2)=_
   rw[zhl t x r hr]
   rfl
  |false=>
   rw[if_pos (by simp),if_neg (by simp)]
   show([t]++[m.1]++(zaw t x true (r.map Prod.fst) (r.map Prod.snd)).1,[x]++[m.2]++(zaw t x true (r.map Prod.fst) (r.map Prod.snd)).2)=_
   rw[zlw t x r hr]
   rfl
theorem zfw (t:ByteArray) (x:J): ∀r:List (ByteArray×J),(insM t x r).Perm ((t,x)::r)
 |[]=>List.Perm.refl _
 |m::r=>by
  rw[insM];split
  ·exact((zfw t x r).cons m).trans (List.Perm.swap _ _ _)
  ·exact List.Perm.refl _
def Rises (r:List (ByteArray×J)):Prop:=r.Pairwise fun a b=>Op.bytesLess a.1.toList b.1.toList=true
theorem zmK {a b:ByteArray} (h:a≠b) (h1:Op.bytesLess a.toList b.toList=false):Op.bytesLess b.toList a.toList=true:=by
 have key: ∀x y:List UInt8,Op.bytesLess x y=false→Op.bytesLess y x=false→x=y:=by
  intro x
  induction x with
  |nil=>intro y h1 _;cases y with
   |nil=>rfl
   |cons b y=>simp[Op.bytesLess]at h1
  |cons a x ih=>intro y h1 h2;cases y with
   |nil=>simp[Op.bytesLess]at h2
   |cons b y=>
    have n1: ¬a<b:=fun e=>by simp[Op.bytesLess,e]at h1
    have n2: ¬b<a:=fun e=>by simp[Op.bytesLess,e]at h2
    have e:a=b:=UInt8.le_antisymm (UInt8.not_lt.1 n2) (UInt8.not_lt.1 n1)
    subst e
    rw[ih y (by simpa[Op.bytesLess]using h1) (by simpa[Op.bytesLess]using h2)]
 cases h2:Op.bytesLess b.toList a.toList with
 |true=>rfl
 |false=>
  refine absurd ?_ h
  have:=key _ _ h1 h2
  have e:=zdJ a b
  rw[this]at e
  simpa using e.symm
theorem zgb (t:ByteArray) (x:J): ∀r:List (ByteArray×J),(∀m∈r,m.1≠t)→Rises r→Rises (insM t x r)
 |[],_,_=>by unfold Rises insM;simp
 |m::r,h,hr=>by
  unfold Rises at hr⊢
  rw[List.pairwise_cons]at hr
  rw[insM]
  cases hb:Op.bytesLess m.1.toList t.toList with
  |true=>
   rw[if_pos rfl,List.pairwise_cons]
   refine⟨fun y hy=> ?_,zgb t x r (fun m' h'=>h m' (List.mem_cons_of_mem _ h')) hr.2⟩
   rcases List.mem_cons.1 ((zfw t x r).mem_iff.1 hy)with rfl|hy
   ·exact hb
   ·exact hr.1 y hy
  |false=>
   rw[if_neg (by simp),List.pairwise_cons,List.pairwise_cons]
   have ht:=zmK (h m (by simp)) hb
   refine⟨fun y hy=> ?_,hr⟩
   rcases List.mem_cons.1 hy with rfl|hy
   ·exact ht
   ·exact zev _ _ _ ht (hr.1 y hy)
theorem zlv: ∀(n:Nat) (ms:List (ByteArray×J)),ms.length=n→(ms.map Prod.fst).Nodup→ ∃r,zdZ ms=(r.map Prod.fst,r.map Prod.snd)∧r.Perm ms∧Rises r
 |0,ms,h,_=>by rw[List.eq_nil_of_length_eq_zero h];exact⟨[],rfl,List.Perm.refl _,by unfold Rises;simp⟩
 |n+1,ms,h,hn=>by
  obtain⟨m,t,x,rfl⟩: ∃m t x,ms=m++[(t,x)]:=⟨ms.dropLast,(ms.getLast (by intro e;rw[e]at h;cases h)).1,(ms.getLast (by intro e;rw[e]at h;cases h)).2,(List.dropLast_concat_getLast _).symm⟩
  rw[List.map_append,List.nodup_append]at hn
  obtain⟨r,h1,h2,h3⟩:=zlv n m (by simpa using h) hn.1
  have hne: ∀y∈r,y.1≠t:=fun y hy e=>hn.2.2 y.1 (List.mem_map_of_mem (h2.mem_iff.1 hy)) t (by simp) e
  refine⟨insM t x r,?_,?_,zgb t x r hne h3⟩
  ·rw[zgW,h1];exact zhl t x r hne
  ·exact(zfw t x r).trans (((h2.cons (t,x))).trans (List.perm_append_comm (l₁:=[(t,x)]) (l₂:=m)))
theorem rises_unique {r r':List (ByteArray×J)} (hp:r.Perm r') (h:Rises r) (h':Rises r'):r=r':=
 List.Perm.eq_of_pairwise (fun a b _ _ h1 h2=>absurd (zev _ _ _ h1 h2) (by rw[zhq];simp)) h h' hp
theorem FlatM.cons_of {W:World} {S:Nat→Prop} {ms:List (ByteArray×J)} {z:MC} {zs:List MC} (h:FlatM W S ms (z::zs)): ∃m r,ms=m::r∧FlatM W S [m] [z]∧FlatM W S r zs:=by
 cases ms with
 |nil=>rw[FlatM]at h;cases h
 |cons m r=>
  obtain⟨z',zs',e,h1,h2,h3,h4⟩:=h
  injection e with e1 e2
  subst e1;subst e2
  exact⟨m,r,rfl,⟨z,[],rfl,h1,h2,h3,rfl⟩,h4⟩
theorem FlatM.cons_to {W:World} {S:Nat→Prop} {m:ByteArray×J} {r:List (ByteArray×J)} {z:MC} {zs:List MC} (h:FlatM W S [m] [z]) (hr:FlatM W S r zs):FlatM W S (m::r) (z::zs):=by
 obtain⟨z',zs',e,h1,h2,h3,_⟩:=h
 injection e with e1 e2
 subst e1
 exact⟨z,zs,rfl,h1,h2,h3,hr⟩
theorem FlatM.perm {W:World} {S:Nat→Prop} {zs zs':List MC} (hp:zs.Perm zs'): ∀ms:List (ByteArray×J),FlatM W S ms zs→ ∃ms',ms'.Perm ms∧FlatM W S ms' zs':=by
 induction hp with
 |nil=>intro ms h;exact⟨ms,List.Perm.refl _,h⟩
 |cons z _ ih=>
  intro ms h
  obtain⟨m,r,rfl,h1,h2⟩:=h.cons_of
  obtain⟨r',p1,p2⟩:=ih r h2
  exact⟨m::r',p1.cons m,h1.cons_to p2⟩
 |swap a b l=>
  intro ms h
  obtain⟨m,r,rfl,h1,h2⟩:=h.cons_of
  obtain⟨m2,r2,rfl,h3,h4⟩:=h2.cons_of
  exact⟨m2::m::r2,List.Perm.swap _ _ _,h3.cons_to (h1.cons_to h4)⟩
 |trans _ _ ih1 ih2=>
  intro ms h
  obtain⟨m1,p1,q1⟩:=ih1 ms h
  obtain⟨m2,p2,q2⟩:=ih2 m1 q1
  exact⟨m2,p2.trans p1,q2⟩
theorem znj {ms r:List (ByteArray×J)} (hn:(ms.map Prod.fst).Nodup) (hp:r.Perm ms) (hr:Rises r):zdZ ms=(r.map Prod.fst,r.map Prod.snd):=by
 obtain⟨r',h1,h2,h3⟩:=zlv _ ms rfl hn
 rw[h1,rises_unique (h2.trans hp.symm) h3 hr]
end Go.Proofs.YtjfgmgkhinehaaaGreatDoor
namespace Go.Proofs.YtjfgmgkhinehaaaGreatDoor
open Go
theorem badU_app: ∀(n:Nat) (a b:List Int),a.length≤n→badU a=a.length→badU (a++b)=a.length+badU b
 |_,[],b,_,_=>by rw[List.nil_append,List.length_nil,Nat.zero_add]
 |0,c::r,_,h,_=>by simp at h
 |n+1,c::r,b,hl,hu=>by
  have hv:(nxL (c::r)).1≠ -1:=fun e=>by rw[ziZ e]at hu;cases hu
  have hb:=zhX hv
  obtain⟨p1,p2,p3,p4,_,p6,p7⟩:=zcK hv
  obtain⟨m,hm⟩: ∃m,m=(nxL (c::r)).2:=⟨_,rfl⟩
  obtain⟨N,hN⟩: ∃N,N=(nxL (c::r)).1:=⟨_,rfl⟩
  rw[←hm]at hb p1 p2 p3 p4
  rw[←hN]at p1 p2 p6 p7
  have e:c::r=putL N++(c::r).drop m:=by rw[p1,List.take_append_drop]
  have hnx:nxL (c::r++b)=(N,m):=by
   rw[e,List.append_assoc,nx_put p7,p2]
  have hd:(c::r++b).drop m=(c::r).drop m++b:=List.drop_append_of_le_length p4
  have ih:=badU_app n ((c::r).drop m) b (by rw[List.length_drop];simp only[List.length_cons]at hl⊢;omega) (by rw[List.length_drop];omega)
  rw[zhX (by rw[hnx];show N≠ -1;omega),hnx]
  show m+badU ((c::r++b).drop m)=_
  rw[hd,ih,List.length_drop]
  omega
theorem badU_snoc {a t:List Int} (ha:badU a=a.length) (ht:badU t=t.length):badU (a++t)=(a++t).length:=by
 rw[badU_app _ a t (Nat.le_refl _) ha,ht,List.length_append]
theorem badU_nil:badU []=0:=rfl
theorem badU_put (n:Int):badU (putL n)=(putL n).length:=by
 by_cases h:putL n=[]
 ·rw[h];rfl
 ·have hx:=nx_put h []
  rw[List.append_nil]at hx
  have hn:n≠ -1:=fun e=>h (by rw[e];rfl)
  rw[zhX (by rw[hx];exact hn),hx]
  show(putL n).length+badU ((putL n).drop (putL n).length)=_
  rw[List.drop_length,badU_nil,Nat.add_zero]
theorem plain_put (c:Int): ∃n,zaq c=putL n:=by
 unfold zaq
 split
 ·rename_i h;exact⟨c,(zfY (by omega) (by omega)).symm⟩
 split
 ·exact⟨8,rfl⟩
 split
 ·exact⟨12,rfl⟩
 split
 ·exact⟨10,rfl⟩
 split
 ·exact⟨13,rfl⟩
 split
 ·exact⟨9,rfl⟩
 ·exact⟨-1,rfl⟩
def UB (t:List Int):Prop:=Bytes t∧badU t=t.length
theorem UB.put {t:List Int} (h:UB t) (n:Int):UB (t++putL n):=⟨h.1.append (zdh n),badU_snoc h.2 (badU_put n)⟩
theorem UB.nil:UB []:=⟨.of_mem (by simp),rfl⟩
theorem UB.toS {t:List Int} (h:UB t):utfS (toS t)=true:=by
 unfold utfS
 rw[zbo h.1]
 exact decide_eq_true h.2
theorem zhh (l:List Int): ∀(f i:Nat) (out:List Int),UB out→(zbW l f i out).2.2=0→UB (zbW l f i out).1
 |0,i,out,_,h=>absurd (show(50:Int)=0 from h) (by decide)
 |f+1,i,out,ho,h=>by
  rw[zbW]at h⊢
  by_cases h1:atL l i<32
  ·rw[if_pos h1]at h;exact absurd (show(50:Int)=0 from h) (by decide)
  rw[if_neg h1]at h⊢
  by_cases h2:atL l i=34
  ·rw[if_pos h2];exact ho
  rw[if_neg h2]at h⊢
  by_cases h3:atL l i≠92
  ·rw[if_pos h3]at h⊢
   by_cases h4:(nxL (l.drop i)).1<0
   ·rw[if_pos h4]at h;exact absurd (show(50:Int)=0 from h) (by decide)
   rw[if_neg h4]at h⊢
   have hf:=(zcK (l:=l.drop i) (by omega)).1
   rw[←hf]at h⊢
   exact zhh l f _ _ (ho.put _) h
  rw[if_neg h3]at h⊢
  by_cases h5:atL l (i+1)≠117
  ·rw[if_pos h5]at h⊢
   by_cases h6:zaq (atL l (i+1))=[]
   ·rw[if_pos h6]at h;exact absurd (show(50:Int)=0 from h) (by decide)
   rw[if_neg h6]at h⊢
   obtain⟨n,hn⟩:=plain_put (atL l (i+1))
   rw[hn]at h⊢
   exact zhh l f _ _ (ho.put _) h
  rw[if_neg h5]at h⊢
  by_cases h7:(hexL l 4 (i+2) 0).1<0
  ·rw[if_pos h7]at h;exact absurd (show(50:Int)=0 from h) (by decide)
  rw[if_neg h7]at h⊢
  by_cases h8:(hexL l 4 (i+2) 0).1<55296∨57343<(hexL l 4 (i+2) 0).1
  ·rw[if_pos h8]at h⊢
   exact zhh l f _ _ (ho.put _) h
  rw[if_neg h8]at h⊢
  by_cases h9:56320≤(hexL l 4 (i+2) 0).1∨zbf l i<56320∨57343<zbf l i
  ·rw[if_pos h9]at h;exact absurd (show(50:Int)=0 from h) (by decide)
  rw[if_neg h9]at h⊢
  exact zhh l f _ _ (ho.put _) h
theorem zgV (l:List Int) (i:Nat) (h:(zah l i).2.2=0):UB (zah l i).1:=by
 unfold zah at h⊢
 by_cases h1:atL l i≠34
 ·rw[if_pos h1]at h;exact absurd (show(50:Int)=0 from h) (by decide)
 rw[if_neg h1]at h⊢
 exact zhh l _ _ _ UB.nil h
theorem quotL_max (l:List Int): ∀(f i:Nat) (out:List Int),(zbW l f i out).1.length≤out.length+4*f
 |0,i,out=>by rw[zbW];simp
 |f+1,i,out=>by
  rw[zbW]
  have go: ∀(j:Nat) (t:List Int),t.length≤4→(zbW l f j (out++t)).1.length≤out.length+4*(f+1):=fun j t ht=>by
   have:=quotL_max l f j (out++t)
   rw[List.length_append]at this
   omega
  split
  ·simp
  split
  ·show out.length≤_;omega
  split
  ·split
   ·simp
   ·exact go _ _ (by have:=(nx_bd (l.drop i)).2.2.1;rw[List.length_take];omega)
  split
  ·split
   ·simp
   ·obtain⟨n,hn⟩:=plain_put (atL l (i+1))
    exact go _ _ (by rw[hn];exact zcn n)
  split
  ·simp
  split
  ·exact go _ _ (zcn _)
  split
  ·simp
  ·exact go _ _ (zcn _)
theorem zkZ (l:List Int) (i:Nat):(zah l i).1.length≤4*(l.length+1):=by
 unfold zah
 split
 ·simp
 ·have:=quotL_max l (l.length+1) (i+1) []
  simpa using this
theorem zip {l:List Int} (hl:l.length≤100000000) (i:Nat):(toS (zah l i).1).size≤1000000000:=by
 rw[zap]
 have:=zkZ l i
 omega
def GoodV (d:Nat) (m:Int) (r:VR):Prop:=r.2.2.2=0→Rt r.1∧dpJ r.1≤d∧(szJ r.1:Int)=m-r.2.2.1∧Mild r.1
theorem GoodV.bad {d:Nat} {m:Int} {v:J} {p:Nat} {n e:Int} (he:e≠0):GoodV d m (v,p,n,e):=fun h=>absurd h he
theorem leaf_good (d:Nat) (left:Int) (kind n:Int) (s:ByteArray) (p:Nat) (hs:s.size≤1000000000) (hc:zcc kind n s 0 0=true) (h:zdu kind n s=true):GoodV d left (.mk kind n s [] [],p,left-1,0):=fun _=>by
 have hk:=leaf_kind h
 refine⟨.mk kind n s [] [] hc (fun e=>by omega) (.inr (.inr h)) (fun x hx=>(by cases hx)),?_,?_,.mk kind n s [] [] hs (fun t ht=>(by cases ht)) (fun x hx=>(by cases hx))⟩
 ·show dpJ (.mk kind n s [] [])≤d
  rw[dpJ,if_neg (by omega)];exact Nat.zero_le _
 ·show(szJ (.mk kind n s [] []):Int)=left-(left-1)
  rw[szJ,szLs];omega
theorem zgQ (l:List Int) (d:Nat) (left:Int) (kind n:Int) (s:ByteArray) (p:Nat×Int) (hs:s.size≤1000000000) (hc:zcc kind n s 0 0=true) (h:p.2=0→zdu kind n s=true):GoodV d left (zce l (left-1) (.mk kind n s [] []) p):=by
 unfold zce
 by_cases hp:p.2≠0
 ·rw[if_pos hp];exact .bad hp
 ·rw[if_neg hp];exact leaf_good d left kind n s _ hs hc (h (by omega))
theorem valF_good (l:List Int) (hl:l.length≤100000000) (d:Nat) (many:Nat→Int→VR) (hm: ∀i left,GoodV d (left+1) (many i left)) (i:Nat) (left:Int):GoodV d left (valF l many i left):=by
 unfold valF
 split
 ·exact .bad (by decide)
 split
 ·exact .bad (by decide)
 split
 ·split
  ·exact .bad (by decide)
  split
  ·rename_i hf
   unfold fitL at hf
   rw[decide_eq_true_eq]at hf
   exact leaf_good d left 2 _ _ _ (by decide) (by rw[zal];simp) (by
    unfold zdu
    rw[if_neg (by decide),if_neg (by decide),if_pos rfl,Bool.and_eq_true,decide_eq_true_eq,decide_eq_true_eq]
    exact⟨hf.2.2.1,hf.2.2.2⟩)
  ·exact .bad (by decide)
 split
 ·exact zgQ l d left 0 0 ⟨#[]⟩ _ (by decide) (by decide) (fun _=>by decide)
 split
 ·exact zgQ l d left 1 1 ⟨#[]⟩ _ (by decide) (by decide) (fun _=>by decide)
 split
 ·exact zgQ l d left 1 0 ⟨#[]⟩ _ (by decide) (by decide) (fun _=>by decide)
 split
 ·refine zgQ l d left 3 0 _ _ (zip hl i) (by rw[zal];simp) (fun h=> ?_)
  unfold zdu
  rw[if_neg (by decide),if_neg (by decide),if_neg (by decide),if_pos rfl]
  exact(zgV l i h).toS
 ·have:=hm i (left-1)
  rwa [show left-1+1=left by omega]at this
def Had (d:Nat) (obj:Bool) (ks:List ByteArray) (vs:List J):Prop:=(∀x∈vs,Rt x∧dpJ x≤d∧Mild x)∧(if obj=true then ∃r:List (ByteArray×J),ks=r.map Prod.fst∧vs=r.map Prod.snd∧Rises r∧ ∀m∈r,utfS m.1=true∧m.1.size≤1000000000 else ks=[])
theorem Had.list {d:Nat} {vs:List J} {x:J} (h:Had d false [] vs) (hx:Rt x∧dpJ x≤d∧Mild x):Had d false [] (vs++[x]):=⟨fun y hy=>by
 rcases List.mem_append.1 hy with hy|hy
 ·exact h.1 y hy
 ·rw[List.mem_singleton]at hy;subst hy;exact hx,by rw[if_neg (by simp)]⟩
theorem Had.obj {d:Nat} {ks:List ByteArray} {vs:List J} {t:ByteArray} {x:J} (h:Had d true ks vs) (hx:Rt x∧dpJ x≤d∧Mild x) (ht:utfS t=true∧t.size≤1000000000) (hk:hasK ks t=false):
  Had d true (zaw t x false ks vs).1 (zaw t x false ks vs).2∧szLs (zaw t x false ks vs).2=szJ x+szLs vs:=by
 obtain⟨h1,h2⟩:=h
 rw[if_pos rfl]at h2
 obtain⟨r,rfl,rfl,hr,hu⟩:=h2
 have hne: ∀m∈r,m.1≠t:=fun m hm e=>by
  unfold hasK at hk
  rw[List.any_eq_false]at hk
  exact hk m.1 (List.mem_map_of_mem hm) (by simpa using e)
 rw[zhl t x r hne]
 have hp:=zfw t x r
 refine⟨⟨fun y hy=> ?_,?_⟩,?_⟩
 ·obtain⟨m,hm,rfl⟩:=List.mem_map.1 hy
  rcases List.mem_cons.1 (hp.mem_iff.1 hm)with rfl|hm
  ·exact hx
  ·exact h1 _ (List.mem_map_of_mem hm)
 ·rw[if_pos rfl]
  refine⟨_,rfl,rfl,zgb t x r hne hr,fun m hm=> ?_⟩
  rcases List.mem_cons.1 (hp.mem_iff.1 hm)with rfl|hm
  ·exact ht
  ·exact hu m hm
 ·rw[szLs_perm (hp.map Prod.snd),List.map_cons,szLs]
theorem rnL_of: ∀(r:List (ByteArray×J)) (p:Option ByteArray),Rises r→(∀m∈r,utfS m.1=true)→(∀q,p=some q→ ∀m∈r,Op.bytesLess q.toList m.1.toList=true)→rnL p (r.map Prod.fst)=true
 |[],p,_,_,_=>znX p
 |m::r,p,hr,hu,hp=>by
  unfold Rises at hr
  rw[List.pairwise_cons]at hr
  rw[List.map_cons,zbi,hu m (by simp),rnL_of r (some m.1) hr.2 (fun y hy=>hu y (List.mem_cons_of_mem _ hy)) (fun q hq y hy=>by injection hq with hq;subst hq;exact hr.1 y hy)]
  cases p with
  |none=>rfl
  |some q=>simp[hp q rfl m (by simp)]
theorem zgt (l:List Int) (hl:l.length≤100000000) (d:Nat) (val:Nat→Int→VR) (hv: ∀i left,GoodV d left (val i left)) (obj:Bool): ∀(f:Nat) (first:Bool) (i:Nat) (left:Int) (ks:List ByteArray) (vs:List J),Had d obj ks vs→GoodV (d+1) (1+(szLs vs:Int)+left) (zas l val obj f first i left ks vs)
 |0,first,i,left,ks,vs,_=> .bad (by decide)
 |f+1,first,i,left,ks,vs,hh=>by
  have item: ∀(a:Nat) (t:ByteArray),(obj=true→(utfS t=true∧t.size≤1000000000)∧hasK ks t=false)→GoodV (d+1) (1+(szLs vs:Int)+left) (zfb l val obj (zas l val obj f false) a left t ks vs):=fun a t ht=>by
   unfold zfb
   by_cases he:(val a left).2.2.2≠0
   ·rw[if_pos he];exact .bad he
   ·rw[if_neg he]
    obtain⟨h1,h2,h3,h4⟩:=hv a left (by omega)
    by_cases hc:atL l (val a left).2.1≠44∧atL l (val a left).2.1≠(if obj=true then 125 else 93)
    ·rw[if_pos hc];exact .bad (by decide)
    ·rw[if_neg hc]
     cases obj
     ·have hks:ks=[]:=by have:=hh.2;rwa [if_neg (by simp)]at this
      subst hks
      have:=zgt l hl d val hv false f false (val a left).2.1 (val a left).2.2.1 [] (vs++[(val a left).1]) (hh.list ⟨h1,h2,h4⟩)
      rw[zmr,szLs,szLs]at this
      rw[if_neg (by simp)]
      rwa [show 1+((szLs vs+(szJ (val a left).1+0):Nat):Int)+(val a left).2.2.1=1+(szLs vs:Int)+left by omega]at this
     ·obtain⟨t1,t2⟩:=ht rfl
      obtain⟨q1,q2⟩:=hh.obj ⟨h1,h2,h4⟩ t1 t2
      have:=zgt l hl d val hv true f false (val a left).2.1 (val a left).2.2.1 _ _ q1
      rw[q2]at this
      rw[if_pos rfl]
      rwa [show 1+((szJ (val a left).1+szLs vs:Nat):Int)+(val a left).2.2.1=1+(szLs vs:Int)+left by omega]at this
  have memb: ∀(a:Nat),GoodV (d+1) (1+(szLs vs:Int)+left) (zem l val obj (zas l val obj f false) a left ks vs):=fun a=>by
   unfold zem
   split
   ·split
    ·rename_i he;exact .bad he
    ·rename_i he
     have hub:=zgV l a (by omega)
     split
     ·exact .bad (by decide)
     ·rename_i hk
      split
      ·exact .bad (by decide)
      ·exact item _ _ (fun _=>⟨⟨hub.toS,zip hl a⟩,by simpa using hk⟩)
   ·rename_i ho
    exact item _ _ (fun h=>absurd h ho)
  rw[zas]
  by_cases he:atL l i=(if obj=true then 125 else 93)
  ·rw[if_pos he]
   intro _
   obtain⟨g1,g2⟩:=hh
   have hdp:dpLs vs≤d:=(dpLs_le vs).2 fun x hx=>(g1 x hx).2.1
   cases obj
   ·rw[if_neg (by simp)]at g2
    subst g2
    refine⟨.mk 4 0 ⟨#[]⟩ vs [] (by rw[zal];simp) (fun h=>absurd h (by decide)) (.inl rfl) (fun x hx=>(g1 x hx).1),?_,?_,.mk _ _ _ _ _ (by decide) (fun t ht=>(by cases ht)) (fun x hx=>(g1 x hx).2.2)⟩
    ·show dpJ (.mk 4 0 ⟨#[]⟩ vs [])≤d+1
     rw[dpJ,if_pos (.inl rfl)];omega
    ·show(szJ (.mk 4 0 ⟨#[]⟩ vs []):Int)=1+(szLs vs:Int)+left-left
     rw[szJ];omega
   ·rw[if_pos rfl]at g2
    obtain⟨r,rfl,rfl,hr,hu⟩:=g2
    refine⟨.mk 5 0 ⟨#[]⟩ _ _ (by rw[zal];simp) (fun _=>⟨by simp,rnL_of r none hr (fun m hm=>(hu m hm).1) (fun q hq=>by cases hq)⟩) (.inr (.inl rfl)) (fun x hx=>(g1 x hx).1),?_,?_,.mk _ _ _ _ _ (by decide) (fun t ht=>(by obtain⟨m,hm,rfl⟩:=List.mem_map.1 ht;exact(hu m hm).2)) (fun x hx=>(g1 x hx).2.2)⟩
    ·show dpJ (.mk 5 0 ⟨#[]⟩ _ _)≤d+1
     rw[dpJ,if_pos (.inr rfl)];omega
    ·show(szJ (.mk 5 0 ⟨#[]⟩ (r.map Prod.snd) (r.map Prod.fst)):Int)=1+(szLs (r.map Prod.snd):Int)+left-left
     rw[szJ];omega
  ·rw[if_neg he]
   split
   ·exact memb _
   ·split
    ·exact .bad (by decide)
    ·exact memb _
theorem zjj (l:List Int) (hl:l.length≤100000000): ∀(d i:Nat) (left:Int),GoodV d left (zag l d i left)
 |0,i,left=>by rw[zag];exact valF_good l hl 0 _ (fun i left=> .bad (by decide)) i left
 |d+1,i,left=>by
  rw[zag]
  refine valF_good l hl (d+1) _ (fun i left=> ?_) i left
  unfold zbX
  have:=zgt l hl d (zag l d) (fun i left=>zjj l hl d i left) (decide (atL l i=123)) (l.length+1) true (zaY l (i+1)) left [] [] ⟨fun x hx=>(by cases hx),by split<;>first|exact⟨[],rfl,rfl,List.Pairwise.nil,fun m hm=>(by cases hm)⟩|rfl⟩
  rw[szLs]at this
  rwa [show 1+((0:Nat):Int)+left=left+1 by omega]at this
theorem zfs (l:List Int) (h:(zar l).2.1=0):(rgt (zar l).1 1 256).1=true∧Mild (zar l).1:=by
 rw[zib]at h⊢
 unfold zed at h⊢
 by_cases h1:4096<l.length
 ·rw[if_pos h1]at h;exact absurd (show(2:Int)=0 from h) (by decide)
 rw[if_neg h1]at h⊢
 by_cases h2:(zag l 8 (zaY l 0) 256).2.2.2≠0
 ·rw[if_pos h2]at h;exact absurd h h2
 rw[if_neg h2]at h⊢
 by_cases h3:(zag l 8 (zaY l 0) 256).2.1<l.length
 ·rw[if_pos h3]at h;exact absurd (show(50:Int)=0 from h) (by decide)
 rw[if_neg h3]
 obtain⟨a,b,c,m⟩:=zjj l (by omega) 8 (zaY l 0) 256 (by omega)
 obtain⟨_,_,m3,_⟩:=zbZ l 8 (zaY l 0) 256 (zan (Nat.zero_le _)).2 (by omega)
 show(rgt (zag l 8 (zaY l 0) 256).1 1 256).1=true∧Mild (zag l 8 (zaY l 0) 256).1
 exact⟨(zfq _).2 ⟨a,by omega,b⟩,m⟩
end Go.Proofs.YtjfgmgkhinehaaaGreatDoor
namespace Go.Proofs.YtjfgmgkhinehaaaGreatDoor
open Go Go.RowKit
theorem sm_of_rt {j:J} (h:Rt j) (hz:szJ j≤256):Sm j:=by
 induction j using J.ind with
 |h kind n s l k ih=>
  cases h with
  |mk _ _ _ _ _ a1 a2 a3 a4=>
   have hl: ∀(l:List J),l.length≤szLs l∧ ∀x∈l,szJ x≤szLs l:=fun l=>by
    induction l with
    |nil=>exact⟨by simp,fun x hx=>by cases hx⟩
    |cons y r ihr=>
     have:=szJ_pos y
     rw[szLs]
     refine⟨by simp;omega,fun x hx=> ?_⟩
     rcases List.mem_cons.1 hx with rfl|hx
     ·omega
     ·have:=ihr.2 x hx;omega
   rw[szJ]at hz
   have hkl:k.length≤l.length:=by
    by_cases h5:kind=5
    ·exact Nat.le_of_eq (a2 h5).1
    ·rw[clean_q a1 h5];exact Nat.zero_le _
   have:=(hl l).1
   exact .mk (by omega) (by omega) (fun x hx=>ih x hx (a4 x hx) (by have:=(hl l).2 x hx;omega))
theorem parsed_small {l:List Int} (h:(zar l).2.1=0):Sm (zar l).1∧((zar l).1.kind=5→(zar l).1.k.length≤256∧ ∀t∈(zar l).1.k,t.size≤1000000000):=by
 obtain⟨h1,h2⟩:=zfs l h
 obtain⟨h3,h4,_⟩:=(zfq _).1 h1
 refine⟨sm_of_rt h3 h4,fun hk=> ?_⟩
 cases hp:(zar l).1 with
 |mk kind n s ls k=>
  rw[hp]at h2 h3 h4 hk
  cases h3 with
  |mk _ _ _ _ _ a1 a2 a3 a4=>
   cases h2 with
   |mk _ _ _ _ _ m1 m2 m3=>
    refine⟨?_,m2⟩
    have:=(a2 hk).1
    have hl: ∀l:List J,l.length≤szLs l:=fun l=>by
     induction l with
     |nil=>exact Nat.zero_le _
     |cons y r ihr=>have:=szJ_pos y;rw[szLs];simp;omega
    have:=hl ls
    rw[szJ]at h4
    show k.length≤256
    omega
end Go.Proofs.YtjfgmgkhinehaaaGreatDoor
