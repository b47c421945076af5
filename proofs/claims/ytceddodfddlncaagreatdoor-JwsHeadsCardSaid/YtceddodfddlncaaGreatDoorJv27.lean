
import Derived.Sort.Lot0
import Derived.Lib.AppendZeros
import Derived.Test.YtceddodfddlncaaGreatDoorJv26
set_option maxRecDepth 100000
set_option maxHeartbeats 16000000
set_option linter.all false
namespace Go.Proofs.YtceddodfddlncaaGreatDoor
open Go Go.Sort Tryz
def jU:=@List.pairwise_cons
def kE:=@List.headD_cons
def kO:=@List.tail_cons
def kV:=@List.Perm.refl
def k8:=@UInt8.not_lt
def lG:=@List.mem_map_of_mem
def l6:=@UInt8.le_antisymm
variable {α:Type} [Inhabited α]
theorem SWO.le {lt:α→α→Bool} {a m:Nat} {d:Array α} (B:SWO lt) (h:SortedIn lt a m d) {i j:Nat} (hi:a≤i) (D:i≤j) (q:j<m):lt d[j]! d[i]! =false:=by
 by_cases e:i=j
 ·subst e;exact B.irrefl _
 ·exact h i j hi (by omega) q
theorem SWO.asymm {lt:α→α→Bool} (q:SWO lt) {x y:α} (h:lt x y=true):lt y x=false:=by
 cases hyx:lt y x with
 |false=>rfl
 |true=>have:=q.trans _ _ _ h hyx;rw[q.irrefl]at this;cases this
def Rot (d d':Array α) (s m e:Nat):Prop:=
 (∀i,i<s∨e≤i→d'[i]! =d[i]!)∧(∀i,s≤i→i<s+(e-m)→d'[i]! =d[m+(i-s)]!)∧(∀i,s+(e-m)≤i→i<e→d'[i]! =d[i-(e-m)]!)
theorem Rot.none (d:Array α) {s m e:Nat} (B:s≤m) (D:m≤e) (h:s=m∨m=e):Rot d d s m e:=
 ⟨fun _ _=>rfl,fun i h1 q=>by congr 1;omega,fun i h1 q=>by congr 1;omega⟩
theorem B3 {lt:α→α→Bool} (q:SWO lt) {d D:Array α} {a m b E s e:Nat} (ha:a≤s) (hs:s≤m) (Y:m≤e) (he:e≤b) (ad:s+e=E+m) (h1:SortedIn lt a m d) (I:SortedIn lt m b d)
  (Z:a<s→e<b→lt d[e]! d[s-1]! =false) (aa:s<m→m<e→lt d[e-1]! d[s]! =true) (X:Rot d D s m e):
  SortedIn lt a s D∧SortedIn lt s E D∧SortedIn lt E e D∧SortedIn lt e b D∧ ∀x y,a≤x→x<E→E≤y→y<b→lt D[y]! D[x]! =false:=by
 obtain⟨B,M,L⟩:=X
 refine⟨fun i j hi G F=> ?_,fun i j hi G F=> ?_,fun i j hi G F=> ?_,fun i j hi G F=> ?_,fun x y V ab hy U=> ?_⟩
 ·rw[B i (.inl (by omega)),B j (.inl F)];exact h1 i j hi G (by omega)
 ·rw[M i hi (by omega),M j (by omega) (by omega)];exact I _ _ (by omega) (by omega) (by omega)
 ·rw[L i (by omega) (by omega),L j (by omega) (by omega)];exact h1 _ _ (by omega) (by omega) (by omega)
 ·rw[B i (.inr (by omega)),B j (.inr (by omega))];exact I i j (by omega) G F
 ·by_cases W:x<s
  ·rw[B x (.inl W)]
   by_cases N:y<e
   ·rw[L y (by omega) N];exact h1 _ _ V (by omega) (by omega)
   ·rw[B y (.inr (by omega))]
    have R:=SWO.le q I (i:=e) (j:=y) Y (by omega) U
    have Q:=Z (by omega) (by omega)
    have O:=SWO.le q h1 (i:=x) (j:=s-1) V (by omega) (by omega)
    exact q.ntrans _ _ _ (q.ntrans _ _ _ R Q) O
  ·rw[M x (by omega) (by omega)]
   by_cases N:y<e
   ·rw[L y (by omega) N]
    have R:=SWO.le q h1 (i:=s) (j:=y-(e-m)) ha (by omega) (by omega)
    have Q:=SWO.asymm q (aa (by omega) (by omega))
    have O:=SWO.le q I (i:=m+(x-s)) (j:=e-1) (by omega) (by omega) (by omega)
    exact q.ntrans _ _ _ (q.ntrans _ _ _ R Q) O
   ·rw[B y (.inr (by omega))]
    exact I _ _ (by omega) (by omega) U
theorem xF {lt:α→α→Bool} {D B E:Array α} {a q b:Nat} (ha:a≤q) (Z:q≤b) (L:b≤D.size) (Y: ∀x y,a≤x→x<q→q≤y→y<b→lt D[y]! D[x]! =false)
  (G:PermIn a q D B) (V:SortedIn lt a q B) (F:PermIn q b B E) (U:SortedIn lt q b E):PermIn a b D E∧SortedIn lt a b E:=by
 refine⟨permIn_trans _ _ _ _ _ (permIn_mono _ _ _ _ _ _ (dQ _) Z L G) (permIn_mono _ _ _ _ _ _ ha (dQ _) (by rw[G.1];exact L) F),fun i j hi R O=> ?_⟩
 by_cases N:j<q
 ·rw[F.2.1 i (.inl (by omega)),F.2.1 j (.inl N)];exact V i j hi R N
 ·by_cases Q:i<q
  ·rw[F.2.1 i (.inl Q)]
   have X: ∀x,a≤x→x<q→ ∀y,q≤y→y<b→lt D[y]! B[x]! =false:=
    permIn_all D B a q (fun v=> ∀y,q≤y→y<b→lt D[y]! v=false) (by omega) G (fun x h1 h2 y I M=>Y x y h1 h2 I M)
   have W: ∀y,q≤y→y<b→lt E[y]! B[i]! =false:=
    permIn_all B E q b (fun v=>lt v B[i]! =false) (by rw[G.1];exact L) F (fun y I M=>by rw[G.2.1 y (.inr I)];exact X i hi Q y I M)
   exact W j (by omega) O
  ·exact U i j (by omega) R O
theorem tJ (h0: ∀x y:List UInt8,Lib.compareBytes x y<0↔Op.bytesLess x y=true) (q:SWO (fun x y:List UInt8=>Op.bytesLess x y)):SWO (ltOf n_):=by
 have e: ∀x y:MT,ltOf n_ x y=Op.bytesLess x.nm.data.toList y.nm.data.toList:=fun x y=>by
  unfold ltOf n_
  cases h:Op.bytesLess x.nm.data.toList y.nm.data.toList with
  |true=>exact ec ((h0 _ _).2 h)
  |false=>exact dT (fun B=>by rw[(h0 _ _).1 B]at h;cases h)
 exact⟨fun x=>by rw[e];exact q.irrefl _,fun x y z=>by rw[e,e,e];exact q.trans _ _ _,fun x y z=>by rw[e,e,e];exact q.ntrans _ _ _⟩
theorem Kc: ∀a b:List UInt8,Lib.compareBytes a b<0↔Op.bytesLess a b=true
 |[],[]=>by simp[Lib.compareBytes,Op.bytesLess]
 |[],_::_=>by simp[Lib.compareBytes,Op.bytesLess]
 |_::_,[]=>by simp[Lib.compareBytes,Op.bytesLess]
 |a::xs,b::ys=>by
  rw[Lib.compareBytes,Op.bytesLess]
  by_cases h:a<b
  ·simp[h]
  ·rw[dN h]
   by_cases q:b<a
   ·rw[dP q]
    have:a≠b:=fun e=>by subst e;exact absurd q h
    simp[h,this]
   ·rw[dN q]
    have:a=b:=l6 (k8.1 q) (k8.1 h)
    subst this
    rw[Kc xs ys]
    simp[h]
theorem J0: ∀x y z:List UInt8,Op.bytesLess x y=true→Op.bytesLess y z=true→Op.bytesLess x z=true
 |x,[],z,h,_=>by cases x<;>simp[Op.bytesLess]at h
 |x,b::y,[],_,h=>by simp[Op.bytesLess]at h
 |[],b::y,c::z,_,_=>rfl
 |a::x,b::y,c::z,h1,q=>by
  simp only[Op.bytesLess,jx,eb,fb,gm]at h1 q⊢
  rcases h1 with h1|⟨rfl,h1⟩
  ·rcases q with q|⟨rfl,q⟩
   ·exact .inl (UInt8.lt_trans h1 q)
   ·exact .inl h1
  ·rcases q with q|⟨rfl,q⟩
   ·exact .inl q
   ·exact .inr ⟨rfl,J0 x y z h1 q⟩
theorem MJ: ∀x y z:List UInt8,Op.bytesLess x y=false→Op.bytesLess y z=false→Op.bytesLess x z=false
 |x,y,[],_,_=>by cases x<;>rfl
 |x,[],c::z,_,h=>by simp[Op.bytesLess]at h
 |[],b::y,c::z,h,_=>by simp[Op.bytesLess]at h
 |a::x,b::y,c::z,h1,h2=>by
  cases h:Op.bytesLess (a::x) (c::z)with
  |false=>rfl
  |true=>
   exfalso
   simp only[Op.bytesLess,jx,eb,fb,gm]at h
   have E: ¬a<b:=fun e=>by simp[Op.bytesLess,e]at h1
   have D: ¬b<c:=fun e=>by simp[Op.bytesLess,e]at h2
   have B:=k8.1 E
   have q:=k8.1 D
   rcases h with h|⟨rfl,h⟩
   ·exact absurd (UInt8.le_trans q B) (UInt8.not_le.2 h)
   ·have e:b=a:=l6 B q
    subst e
    have G:Op.bytesLess x y=false:=by simpa[Op.bytesLess]using h1
    have F:Op.bytesLess y z=false:=by simpa[Op.bytesLess]using h2
    rw[MJ x y z G F]at h
    cases h
theorem JO: ∀l:List UInt8,Op.bytesLess l l=false
 |[]=>rfl
 |a::l=>by simp[Op.bytesLess,JO l]
theorem tL:SWO (ltOf n_):=tJ Kc ⟨JO,J0,MJ⟩
theorem AF (x y:MT):ltOf n_ x y=Op.bytesLess x.nm.toList y.nm.toList:=by
 have e: ∀t:ByteArray,t.toList=t.data.toList:=fun t=>eT t
 unfold ltOf n_
 rw[e,e]
 cases h:Op.bytesLess x.nm.data.toList y.nm.data.toList with
 |true=>exact ec ((Kc _ _).2 h)
 |false=>exact dT (fun q=>by rw[(Kc _ _).1 q]at h;cases h)
def qv (t:ByteArray) (x:J):List (ByteArray×J)→List (ByteArray×J)
 |[]=>[(t,x)]
 |m::r=>if Op.bytesLess m.1.toList t.toList=true then m::qv t x r else(t,x)::m::r
theorem Mf (t:ByteArray) (x:J): ∀r:List (ByteArray×J),(∀m∈r,m.1≠t)→nF t x true (r.map Prod.fst) (r.map Prod.snd)=(r.map Prod.fst,r.map Prod.snd)
 |[],_=>rfl
 |m::r,h=>by
  have B: ¬m.1=t:=h m (by simp)
  rw[gZ,gZ,nF]
  simp only[Bool.true_or,kO,kE]
  rw[Mf t x r (fun q D=>h q (eE _ D)),dN B,dN (by simp)]
  rfl
theorem KQ (t:ByteArray) (x:J): ∀r:List (ByteArray×J),(∀m∈r,m.1≠t)→nF t x false (r.map Prod.fst) (r.map Prod.snd)=((qv t x r).map Prod.fst,(qv t x r).map Prod.snd)
 |[],_=>rfl
 |m::r,h=>by
  have D: ¬m.1=t:=h m (by simp)
  have q:=fun B E=>h B (eE _ E)
  rw[gZ,gZ,nF,qv]
  simp only[lh,kO,kE]
  rw[dN D]
  cases hb:Op.bytesLess m.1.toList t.toList with
  |true=>
   rw[dN (by simp),dP rfl]
   show([]++[m.1]++(nF t x false (r.map Prod.fst) (r.map Prod.snd)).1,[]++[m.2]++(nF t x false (r.map Prod.fst) (r.map Prod.snd)).2)=_
   rw[KQ t x r q]
   rfl
  |false=>
   rw[dP (by simp),dN (by simp)]
   show([t]++[m.1]++(nF t x true (r.map Prod.fst) (r.map Prod.snd)).1,[x]++[m.2]++(nF t x true (r.map Prod.fst) (r.map Prod.snd)).2)=_
   rw[Mf t x r q]
   rfl
theorem JK (t:ByteArray) (x:J): ∀r:List (ByteArray×J),(qv t x r).Perm ((t,x)::r)
 |[]=>kV _
 |m::r=>by
  rw[qv];split
  ·exact((JK t x r).cons m).trans (List.Perm.swap _ _ _)
  ·exact kV _
def Rises (r:List (ByteArray×J)):Prop:=r.Pairwise fun a b=>Op.bytesLess a.1.toList b.1.toList=true
theorem L_ {a b:ByteArray} (h:a≠b) (h1:Op.bytesLess a.toList b.toList=false):Op.bytesLess b.toList a.toList=true:=by
 have E: ∀x y:List UInt8,Op.bytesLess x y=false→Op.bytesLess y x=false→x=y:=by
  intro x
  induction x with
  |nil=>intro y h1 _;cases y with
   |nil=>rfl
   |cons b y=>simp[Op.bytesLess]at h1
  |cons a x ih=>intro y h1 q;cases y with
   |nil=>simp[Op.bytesLess]at q
   |cons b y=>
    have D: ¬a<b:=fun e=>by simp[Op.bytesLess,e]at h1
    have B: ¬b<a:=fun e=>by simp[Op.bytesLess,e]at q
    have e:a=b:=l6 (k8.1 B) (k8.1 D)
    subst e
    rw[ih y (by simpa[Op.bytesLess]using h1) (by simpa[Op.bytesLess]using q)]
 cases q:Op.bytesLess b.toList a.toList with
 |true=>rfl
 |false=>
  refine absurd ?_ h
  have:=E _ _ h1 q
  have e:=BG a b
  rw[this]at e
  simpa using e.symm
theorem Lc (t:ByteArray) (x:J): ∀r:List (ByteArray×J),(∀m∈r,m.1≠t)→Rises r→Rises (qv t x r)
 |[],_,_=>by unfold Rises qv;simp
 |m::r,h,hr=>by
  unfold Rises at hr⊢
  rw[jU]at hr
  rw[qv]
  cases hb:Op.bytesLess m.1.toList t.toList with
  |true=>
   rw[dP rfl,jU]
   refine⟨fun y hy=> ?_,Lc t x r (fun B D=>h B (eE _ D)) hr.2⟩
   rcases eF.1 ((JK t x r).mem_iff.1 hy)with rfl|hy
   ·exact hb
   ·exact hr.1 y hy
  |false=>
   rw[dN (by simp),jU,jU]
   have q:=L_ (h m (by simp)) hb
   refine⟨fun y hy=> ?_,hr⟩
   rcases eF.1 hy with rfl|hy
   ·exact q
   ·exact J0 _ _ _ q (hr.1 y hy)
theorem Mg: ∀(n:Nat) (q:List (ByteArray×J)),q.length=n→(q.map Prod.fst).Nodup→ ∃r,py q=(r.map Prod.fst,r.map Prod.snd)∧r.Perm q∧Rises r
 |0,q,h,_=>by rw[ea h];exact⟨[],rfl,kV _,by unfold Rises;simp⟩
 |n+1,q,h,hn=>by
  obtain⟨m,t,x,rfl⟩: ∃m t x,q=m++[(t,x)]:=⟨q.dropLast,(q.getLast (by intro e;rw[e]at h;cases h)).1,(q.getLast (by intro e;rw[e]at h;cases h)).2,(ly _).symm⟩
  rw[gl,List.nodup_append]at hn
  obtain⟨r,h1,D,E⟩:=Mg n m (by simpa using h) hn.1
  have B: ∀y∈r,y.1≠t:=fun y hy e=>hn.2.2 y.1 (lG (D.mem_iff.1 hy)) t (by simp) e
  refine⟨qv t x r,?_,?_,Lc t x r B E⟩
  ·rw[J1,h1];exact KQ t x r B
  ·exact(JK t x r).trans (((D.cons (t,x))).trans (List.perm_append_comm (l₁:=[(t,x)]) (l₂:=m)))
theorem rT {r q:List (ByteArray×J)} (B:r.Perm q) (h:Rises r) (E:Rises q):r=q:=
 List.Perm.eq_of_pairwise (fun a b _ _ h1 D=>absurd (J0 _ _ _ h1 D) (by rw[JO];simp)) h E B
theorem FlatM.cons_of {W:World} {S:Nat→Prop} {q:List (ByteArray×J)} {z:MC} {zs:List MC} (h:FlatM W S q (z::zs)): ∃m r,q=m::r∧FlatM W S [m] [z]∧FlatM W S r zs:=by
 cases q with
 |nil=>rw[FlatM]at h;cases h
 |cons m r=>
  obtain⟨L,I,e,h1,E,D,B⟩:=h
  injection e with G F
  subst G;subst F
  exact⟨m,r,rfl,⟨z,[],rfl,h1,E,D,rfl⟩,B⟩
theorem FlatM.cons_to {W:World} {S:Nat→Prop} {m:ByteArray×J} {r:List (ByteArray×J)} {z:MC} {zs:List MC} (h:FlatM W S [m] [z]) (q:FlatM W S r zs):FlatM W S (m::r) (z::zs):=by
 obtain⟨G,F,e,h1,D,B,_⟩:=h
 injection e with E I
 subst E
 exact⟨z,zs,rfl,h1,D,B,q⟩
theorem FlatM.perm {W:World} {S:Nat→Prop} {zs G:List MC} (R:zs.Perm G): ∀q:List (ByteArray×J),FlatM W S q zs→ ∃I,I.Perm q∧FlatM W S I G:=by
 induction R with
 |nil=>intro q h;exact⟨q,kV _,h⟩
 |cons z _ ih=>
  intro q h
  obtain⟨m,r,rfl,h1,F⟩:=h.cons_of
  obtain⟨M,D,B⟩:=ih r F
  exact⟨m::M,D.cons m,h1.cons_to B⟩
 |swap a b l=>
  intro q h
  obtain⟨m,r,rfl,h1,F⟩:=h.cons_of
  obtain⟨E,L,rfl,V,U⟩:=F.cons_of
  exact⟨E::m::L,List.Perm.swap _ _ _,V.cons_to (h1.cons_to U)⟩
 |trans _ _ ih1 ih2=>
  intro q h
  obtain⟨Q,D,O⟩:=ih1 q h
  obtain⟨E,B,N⟩:=ih2 Q O
  exact⟨E,B.trans D,N⟩
theorem NL {q r:List (ByteArray×J)} (E:(q.map Prod.fst).Nodup) (D:r.Perm q) (B:Rises r):py q=(r.map Prod.fst,r.map Prod.snd):=by
 obtain⟨I,h1,G,F⟩:=Mg _ q rfl E
 rw[h1,rT (G.trans D.symm) F B]
end Go.Proofs.YtceddodfddlncaaGreatDoor
namespace Go.Proofs.YtceddodfddlncaaGreatDoor
open Go Go.RowKit Tryz
def sAlg:ByteArray:=⟨#[97,108,103]⟩
def sKid:ByteArray:=⟨#[107,105,100]⟩
def sTyp:ByteArray:=⟨#[116,121,112]⟩
def sHS:ByteArray:=⟨#[72,83,50,53,54]⟩
def FW (kid kind:ByteArray):List (ByteArray×J):=[(sAlg,oY sHS),(sKid,oY kid),(sTyp,oY kind)]
def BK (kid kind:ByteArray):J:= .mk 5 0 ⟨#[]⟩ [oY sHS,oY kid,oY kind] [sAlg,sKid,sTyp]
theorem xw (q kind:ByteArray):py (FW q kind)=([sAlg,sKid,sTyp],[oY sHS,oY q,oY kind]):=by
 unfold py FW
 simp only[lz,List.foldl_nil,nF,List.tail_nil,kO,kE]
 have a1:Op.bytesLess sAlg.toList sKid.toList=true:=by decide+kernel
 have a2:Op.bytesLess sAlg.toList sTyp.toList=true:=by decide+kernel
 have a3:Op.bytesLess sKid.toList sTyp.toList=true:=by decide+kernel
 have E: ¬sAlg=sKid:=by decide+kernel
 have D: ¬sAlg=sTyp:=by decide+kernel
 have B: ¬sKid=sTyp:=by decide+kernel
 simp[nF,a1,a2,a3,E,D,B]
def B2:List Int:=[123,34,97,108,103,34,58,34,72,83,50,53,54,34,44,34,107,105,100,34,58]
def Gi:List Int:=[44,34,116,121,112,34,58]
def ow (kid kind:ByteArray):List Int:=B2++(pX (a_ kid)++(Gi++(pX (a_ kind)++[125])))
theorem Al:pX (a_ sAlg)=[34,97,108,103,34]:=by decide+kernel
theorem Ak:pX (a_ sKid)=[34,107,105,100,34]:=by decide+kernel
theorem Aj:pX (a_ sTyp)=[34,116,121,112,34]:=by decide+kernel
theorem Ct:pX (a_ sHS)=[34,72,83,50,53,54,34]:=by decide+kernel
theorem Mx (t:ByteArray):qq (oY t)=pX (a_ t):=by rw[oY,qq];rfl
theorem Lj (q kind:ByteArray):qq (BK q kind)=ow q kind:=by
 rw[BK,qq,dN (by decide),dN (by decide),dN (by decide),dN (by decide),dN (by decide),dP rfl]
 simp only[tf,Mx,kE,kO,Al,Ak,Aj,Ct]
 unfold ow B2 Gi
 simp
def yG (h p:List Int):List Int:=l_ h++46::l_ p
def BO (sec h p:List Int):List Int:=yG h p++46::l_ (nA sec (yG h p))
def zH (k:mV) (kind payload:ByteArray):List Int:=BO (a_ k.2) (ow k.1 kind) (a_ payload)
def DW (ks:List mV) (kind payload:ByteArray):List Int×Int:=
 if o9 ks=false then([],83)else if oG (a_ kind)=false then([],1)else if 4096<payload.size then([],2)else
 if 4096<(zH (ks.getLastD default) kind payload).length then([],2)else(zH (ks.getLastD default) kind payload,0)
def nD (l:List Int):Option (List Int×List Int×List Int):=
 match px l with
 |[a,b,c]=>if nM a= -1∧nM b= -1∧nM c= -1 then some (a,b,c)else none
 |_=>none
def nk (j:J) (name t:ByteArray):Bool:=s9 ((oD j name).getD zeroJ) (oY t)
def qa (l:List Int):Bool:=decide ((nN l).2.1=0)&&decide ((nN l).1.kind=5)&&(nN l).1.k.all fun n=>decide (n=sAlg∨n=sKid∨n=sTyp)
def oe (ks:List mV) (kind:ByteArray) (a b c:List Int):List Int×List Int×Int:=
 if qa (g_ a)=false then([],[],81)else
 if nk (nN (g_ a)).1 sAlg sHS=false then([],[],82)else
 if nk (nN (g_ a)).1 sTyp kind=false then([],[],81)else
 match ks.find? (fun k=>nk (nN (g_ a)).1 sKid k.1)with
 |none=>([],[],83)
 |some k=>if nA (a_ k.2) (a++46::b)=g_ c then(g_ b,a_ k.1,0)else([],[],84)
def nu (ks:List mV) (kind text:ByteArray):List Int×List Int×Int:=
 if o9 ks=false then([],[],83)else if oG (a_ kind)=false then([],[],1)else if 4096<text.size then([],[],2)else
 match nD (a_ text)with
 |none=>([],[],80)
 |some (a,b,c)=>oe ks kind a b c
end Go.Proofs.YtceddodfddlncaaGreatDoor
namespace Go.Proofs.YtceddodfddlncaaGreatDoor
open Go Tryz
theorem vR: ∀(n:Nat) (a b:List Int),a.length≤n→na a=a.length→na (a++b)=a.length+na b
 |_,[],b,_,_=>by rw[fs,fO,eL]
 |0,c::r,_,h,_=>by simp at h
 |n+1,c::r,b,hl,hu=>by
  have F:(nd (c::r)).1≠ -1:=fun e=>by rw[JJ e]at hu;cases hu
  have R:=G6 F
  obtain⟨B,q,L,E,_,I,D⟩:=yK F
  obtain⟨m,O⟩:=yaa ((nd (c::r)).2)
  obtain⟨N,U⟩:=yaa ((nd (c::r)).1)
  rw[←O]at R B q L E
  rw[←U]at B q I D
  have e:c::r=i_ N++(c::r).drop m:=by rw[B,gu]
  have G:nd (c::r++b)=(N,m):=by
   rw[e,fw,xB D,q]
  have Q:(c::r++b).drop m=(c::r).drop m++b:=gP E
  have M:=vR n ((c::r).drop m) b (by rw[eq];simp only[eu]at hl⊢;omega) (by rw[eq];omega)
  rw[G6 (by rw[G];show N≠ -1;omega),G]
  show m+na ((c::r++b).drop m)=_
  rw[Q,M,eq]
  omega
theorem Bo {a t:List Int} (B:na a=a.length) (q:na t=t.length):na (a++t)=(a++t).length:=by
 rw[vR _ a t (dQ _) B,q,dS]
theorem DD:na []=0:=rfl
theorem DC (n:Int):na (i_ n)=(i_ n).length:=by
 by_cases h:i_ n=[]
 ·rw[h];rfl
 ·have q:=xB h []
  rw[fM]at q
  have B:n≠ -1:=fun e=>h (by rw[e];rfl)
  rw[G6 (by rw[q];exact B),q]
  show(i_ n).length+na ((i_ n).drop (i_ n).length)=_
  rw[List.drop_length,DD,kQ]
theorem qT (c:Int): ∃n,nQ c=i_ n:=by
 unfold nQ
 split
 ·rename_i h;exact⟨c,(G_ (by omega) (by omega)).symm⟩
 split
 ·exact⟨8,rfl⟩
 split
 ·exact⟨12,rfl⟩
 split
 ·exact⟨10,rfl⟩
 split
 ·exact⟨13,rfl⟩
 split
 ·exact⟨9,rfl⟩
 ·exact⟨-1,rfl⟩
def UB (t:List Int):Prop:=Bytes t∧na t=t.length
theorem UB.put {t:List Int} (h:UB t) (n:Int):UB (t++i_ n):=⟨h.1.append (F_ n),Bo h.2 (DC n)⟩
theorem UB.nil:UB []:=⟨.of_mem (by simp),rfl⟩
theorem UB.toS {t:List Int} (h:UB t):pl (toS t)=true:=by
 unfold pl
 rw[th h.1]
 exact ec h.2
theorem Ib (l:List Int): ∀(f i:Nat) (out:List Int),UB out→(oc l f i out).2.2=0→UB (oc l f i out).1
 |0,i,out,_,h=>absurd (show(50:Int)=0 from h) (by decide)
 |f+1,i,out,ho,h=>by
  rw[oc]at h⊢
  by_cases h1:f_ l i<32
  ·rw[dP h1]at h;exact absurd (show(50:Int)=0 from h) (by decide)
  rw[dN h1]at h⊢
  by_cases L:f_ l i=34
  ·rw[dP L];exact ho
  rw[dN L]at h⊢
  by_cases I:f_ l i≠92
  ·rw[dP I]at h⊢
   by_cases G:(nd (l.drop i)).1<0
   ·rw[dP G]at h;exact absurd (show(50:Int)=0 from h) (by decide)
   rw[dN G]at h⊢
   have N:=(yK (l:=l.drop i) (by omega)).1
   rw[←N]at h⊢
   exact Ib l f _ _ (ho.put _) h
  rw[dN I]at h⊢
  by_cases F:f_ l (i+1)≠117
  ·rw[dP F]at h⊢
   by_cases E:nQ (f_ l (i+1))=[]
   ·rw[dP E]at h;exact absurd (show(50:Int)=0 from h) (by decide)
   rw[dN E]at h⊢
   obtain⟨n,M⟩:=qT (f_ l (i+1))
   rw[M]at h⊢
   exact Ib l f _ _ (ho.put _) h
  rw[dN F]at h⊢
  by_cases D:(mX l 4 (i+2) 0).1<0
  ·rw[dP D]at h;exact absurd (show(50:Int)=0 from h) (by decide)
  rw[dN D]at h⊢
  by_cases B:(mX l 4 (i+2) 0).1<55296∨57343<(mX l 4 (i+2) 0).1
  ·rw[dP B]at h⊢
   exact Ib l f _ _ (ho.put _) h
  rw[dN B]at h⊢
  by_cases q:56320≤(mX l 4 (i+2) 0).1∨oi l i<56320∨57343<oi l i
  ·rw[dP q]at h;exact absurd (show(50:Int)=0 from h) (by decide)
  rw[dN q]at h⊢
  exact Ib l f _ _ (ho.put _) h
theorem Mi (l:List Int) (i:Nat) (h:(nE l i).2.2=0):UB (nE l i).1:=by
 unfold nE at h⊢
 by_cases h1:f_ l i≠34
 ·rw[dP h1]at h;exact absurd (show(50:Int)=0 from h) (by decide)
 rw[dN h1]at h⊢
 exact Ib l _ _ _ UB.nil h
theorem qP (l:List Int): ∀(f i:Nat) (out:List Int),(oc l f i out).1.length≤out.length+4*f
 |0,i,out=>by rw[oc];simp
 |f+1,i,out=>by
  rw[oc]
  have q: ∀(j:Nat) (t:List Int),t.length≤4→(oc l f j (out++t)).1.length≤out.length+4*(f+1):=fun j t D=>by
   have:=qP l f j (out++t)
   rw[dS]at this
   omega
  split
  ·simp
  split
  ·show out.length≤_;omega
  split
  ·split
   ·simp
   ·exact q _ _ (by have:=(CO (l.drop i)).2.2.1;rw[ep];omega)
  split
  ·split
   ·simp
   ·obtain⟨n,B⟩:=qT (f_ l (i+1))
    exact q _ _ (by rw[B];exact BF n)
  split
  ·simp
  split
  ·exact q _ _ (BF _)
  split
  ·simp
  ·exact q _ _ (BF _)
theorem ug (l:List Int) (i:Nat):(nE l i).1.length≤4*(l.length+1):=by
 unfold nE
 split
 ·simp
 ·have:=qP l (l.length+1) (i+1) []
  simpa using this
theorem M7 {l:List Int} (q:l.length≤100000000) (i:Nat):(toS (nE l i).1).size≤1000000000:=by
 rw[qc]
 have:=ug l i
 omega
def GoodV (d:Nat) (m:Int) (r:VR):Prop:=r.2.2.2=0→Rt r.1∧v8 r.1≤d∧(pZ r.1:Int)=m-r.2.2.1∧Mild r.1
theorem GoodV.bad {d:Nat} {m:Int} {v:J} {p:Nat} {n e:Int} (q:e≠0):GoodV d m (v,p,n,e):=fun h=>absurd h q
theorem q_ (d:Nat) (left:Int) (kind n:Int) (s:ByteArray) (p:Nat) (D:s.size≤1000000000) (E:BD kind n s 0 0=true) (h:D5 kind n s=true):GoodV d left (.mk kind n s [] [],p,left-1,0):=fun _=>by
 have F:=AI h
 refine⟨.mk kind n s [] [] E (fun e=>by omega) (.inr (.inr h)) (fun x q=>(by cases q)),?_,?_,.mk kind n s [] [] D (fun t B=>(by cases B)) (fun x q=>(by cases q))⟩
 ·show v8 (.mk kind n s [] [])≤d
  rw[v8,dN (by omega)];exact eN _
 ·show(pZ (.mk kind n s [] []):Int)=left-(left-1)
  rw[pZ,nt];omega
theorem J2 (l:List Int) (d:Nat) (left:Int) (kind n:Int) (s:ByteArray) (p:Nat×Int) (B:s.size≤1000000000) (D:BD kind n s 0 0=true) (h:p.2=0→D5 kind n s=true):GoodV d left (pj l (left-1) (.mk kind n s [] []) p):=by
 unfold pj
 by_cases q:p.2≠0
 ·rw[dP q];exact .bad q
 ·rw[dN q];exact q_ d left kind n s _ B D (h (by omega))
theorem qE (l:List Int) (E:l.length≤100000000) (d:Nat) (B:Nat→Int→VR) (D: ∀i left,GoodV d (left+1) (B i left)) (i:Nat) (left:Int):GoodV d left (mT l B i left):=by
 unfold mT
 split
 ·exact .bad (by decide)
 split
 ·exact .bad (by decide)
 split
 ·split
  ·exact .bad (by decide)
  split
  ·rename_i q
   unfold oj at q
   rw[eb]at q
   exact q_ d left 2 _ _ _ (by decide) (by rw[Hf];simp) (by
    unfold D5
    rw[dN (by decide),dN (by decide),dP rfl,fb,eb,eb]
    exact⟨q.2.2.1,q.2.2.2⟩)
  ·exact .bad (by decide)
 split
 ·exact J2 l d left 0 0 ⟨#[]⟩ _ (by decide) (by decide) (fun _=>by decide)
 split
 ·exact J2 l d left 1 1 ⟨#[]⟩ _ (by decide) (by decide) (fun _=>by decide)
 split
 ·exact J2 l d left 1 0 ⟨#[]⟩ _ (by decide) (by decide) (fun _=>by decide)
 split
 ·refine J2 l d left 3 0 _ _ (M7 E i) (by rw[Hf];simp) (fun h=> ?_)
  unfold D5
  rw[dN (by decide),dN (by decide),dN (by decide),dP rfl]
  exact(Mi l i h).toS
 ·have:=D i (left-1)
  rwa [show left-1+1=left by omega]at this
def Had (d:Nat) (obj:Bool) (ks:List ByteArray) (vs:List J):Prop:=(∀x∈vs,Rt x∧v8 x≤d∧Mild x)∧(if obj=true then ∃r:List (ByteArray×J),ks=r.map Prod.fst∧vs=r.map Prod.snd∧Rises r∧ ∀m∈r,pl m.1=true∧m.1.size≤1000000000 else ks=[])
theorem Had.list {d:Nat} {vs:List J} {x:J} (h:Had d false [] vs) (q:Rt x∧v8 x≤d∧Mild x):Had d false [] (vs++[x]):=⟨fun y hy=>by
 rcases fA.1 hy with hy|hy
 ·exact h.1 y hy
 ·rw[eh]at hy;subst hy;exact q,by rw[dN (by simp)]⟩
theorem Had.obj {d:Nat} {ks:List ByteArray} {vs:List J} {t:ByteArray} {x:J} (h:Had d true ks vs) (G:Rt x∧v8 x≤d∧Mild x) (L:pl t=true∧t.size≤1000000000) (D:nw ks t=false):
  Had d true (nF t x false ks vs).1 (nF t x false ks vs).2∧nt (nF t x false ks vs).2=pZ x+nt vs:=by
 obtain⟨h1,F⟩:=h
 rw[dP rfl]at F
 obtain⟨r,rfl,rfl,M,I⟩:=F
 have E: ∀m∈r,m.1≠t:=fun m q e=>by
  unfold nw at D
  rw[List.any_eq_false]at D
  exact D m.1 (lG q) (by simpa using e)
 rw[KQ t x r E]
 have B:=JK t x r
 refine⟨⟨fun y hy=> ?_,?_⟩,?_⟩
 ·obtain⟨m,q,rfl⟩:=jN.1 hy
  rcases eF.1 (B.mem_iff.1 q)with rfl|q
  ·exact G
  ·exact h1 _ (lG q)
 ·rw[dP rfl]
  refine⟨_,rfl,rfl,Lc t x r E M,fun m q=> ?_⟩
  rcases eF.1 (B.mem_iff.1 q)with rfl|q
  ·exact L
  ·exact I m q
 ·rw[zS (B.map Prod.snd),gZ,nt]
theorem Cm: ∀(r:List (ByteArray×J)) (p:Option ByteArray),Rises r→(∀m∈r,pl m.1=true)→(∀q,p=some q→ ∀m∈r,Op.bytesLess q.toList m.1.toList=true)→qh p (r.map Prod.fst)=true
 |[],p,_,_,_=>Ez p
 |m::r,p,hr,hu,hp=>by
  unfold Rises at hr
  rw[jU]at hr
  rw[gZ,Ic,hu m (by simp),Cm r (some m.1) hr.2 (fun y hy=>hu y (eE _ hy)) (fun q B y hy=>by injection B with B;subst B;exact hr.1 y hy)]
  cases p with
  |none=>rfl
  |some q=>simp[hp q rfl m (by simp)]
theorem Lq (l:List Int) (L:l.length≤100000000) (d:Nat) (val:Nat→Int→VR) (G: ∀i left,GoodV d left (val i left)) (obj:Bool): ∀(f:Nat) (first:Bool) (i:Nat) (left:Int) (ks:List ByteArray) (vs:List J),Had d obj ks vs→GoodV (d+1) (1+(nt vs:Int)+left) (nW l val obj f first i left ks vs)
 |0,first,i,left,ks,vs,_=> .bad (by decide)
 |f+1,first,i,left,ks,vs,hh=>by
  have N: ∀(a:Nat) (t:ByteArray),(obj=true→(pl t=true∧t.size≤1000000000)∧nw ks t=false)→GoodV (d+1) (1+(nt vs:Int)+left) (s8 l val obj (nW l val obj f false) a left t ks vs):=fun a t E=>by
   unfold s8
   by_cases D:(val a left).2.2.2≠0
   ·rw[dP D];exact .bad D
   ·rw[dN D]
    obtain⟨h1,U,h3,R⟩:=G a left (by omega)
    by_cases Q:f_ l (val a left).2.1≠44∧f_ l (val a left).2.1≠(if obj=true then 125 else 93)
    ·rw[dP Q];exact .bad (by decide)
    ·rw[dN Q]
     cases obj
     ·have aa:ks=[]:=by have:=hh.2;rwa [dN (by simp)]at this
      subst aa
      have:=Lq l L d val G false f false (val a left).2.1 (val a left).2.2.1 [] (vs++[(val a left).1]) (hh.list ⟨h1,U,R⟩)
      rw[tF,nt,nt]at this
      rw[dN (by simp)]
      rwa [show 1+((nt vs+(pZ (val a left).1+0):Nat):Int)+(val a left).2.2.1=1+(nt vs:Int)+left by omega]at this
     ·obtain⟨W,V⟩:=E rfl
      obtain⟨Y,X⟩:=hh.obj ⟨h1,U,R⟩ W V
      have:=Lq l L d val G true f false (val a left).2.1 (val a left).2.2.1 _ _ Y
      rw[X]at this
      rw[dP rfl]
      rwa [show 1+((pZ (val a left).1+nt vs:Nat):Int)+(val a left).2.2.1=1+(nt vs:Int)+left by omega]at this
  have M: ∀(a:Nat),GoodV (d+1) (1+(nt vs:Int)+left) (rD l val obj (nW l val obj f false) a left ks vs):=fun a=>by
   unfold rD
   split
   ·split
    ·rename_i D;exact .bad D
    ·rename_i D
     have Z:=Mi l a (by omega)
     split
     ·exact .bad (by decide)
     ·rename_i hk
      split
      ·exact .bad (by decide)
      ·exact N _ _ (fun _=>⟨⟨Z.toS,M7 L a⟩,by simpa using hk⟩)
   ·rename_i ho
    exact N _ _ (fun h=>absurd h ho)
  rw[nW]
  by_cases D:f_ l i=(if obj=true then 125 else 93)
  ·rw[dP D]
   intro _
   obtain⟨g1,F⟩:=hh
   have ab:sF vs≤d:=(zn vs).2 fun x B=>(g1 x B).2.1
   cases obj
   ·rw[dN (by simp)]at F
    subst F
    refine⟨.mk 4 0 ⟨#[]⟩ vs [] (by rw[Hf];simp) (fun h=>absurd h (by decide)) (.inl rfl) (fun x B=>(g1 x B).1),?_,?_,.mk _ _ _ _ _ (by decide) (fun t E=>(by cases E)) (fun x B=>(g1 x B).2.2)⟩
    ·show v8 (.mk 4 0 ⟨#[]⟩ vs [])≤d+1
     rw[v8,dP (.inl rfl)];omega
    ·show(pZ (.mk 4 0 ⟨#[]⟩ vs []):Int)=1+(nt vs:Int)+left-left
     rw[pZ];omega
   ·rw[dP rfl]at F
    obtain⟨r,rfl,rfl,hr,O⟩:=F
    refine⟨.mk 5 0 ⟨#[]⟩ _ _ (by rw[Hf];simp) (fun _=>⟨by simp,Cm r none hr (fun m I=>(O m I).1) (fun q hq=>by cases hq)⟩) (.inr (.inl rfl)) (fun x B=>(g1 x B).1),?_,?_,.mk _ _ _ _ _ (by decide) (fun t E=>(by obtain⟨m,I,rfl⟩:=jN.1 E;exact(O m I).2)) (fun x B=>(g1 x B).2.2)⟩
    ·show v8 (.mk 5 0 ⟨#[]⟩ _ _)≤d+1
     rw[v8,dP (.inr rfl)];omega
    ·show(pZ (.mk 5 0 ⟨#[]⟩ (r.map Prod.snd) (r.map Prod.fst)):Int)=1+(nt (r.map Prod.snd):Int)+left-left
     rw[pZ];omega
  ·rw[dN D]
   split
   ·exact M _
   ·split
    ·exact .bad (by decide)
    ·exact M _
theorem MY (l:List Int) (q:l.length≤100000000): ∀(d i:Nat) (left:Int),GoodV d left (nj l d i left)
 |0,i,left=>by rw[nj];exact qE l q 0 _ (fun i left=> .bad (by decide)) i left
 |d+1,i,left=>by
  rw[nj]
  refine qE l q (d+1) _ (fun i left=> ?_) i left
  unfold nV
  have:=Lq l q d (nj l d) (fun i left=>MY l q d i left) (decide (f_ l i=123)) (l.length+1) true (d_ l (i+1)) left [] [] ⟨fun x B=>(by cases B),by split<;>first|exact⟨[],rfl,rfl,List.Pairwise.nil,fun m D=>(by cases D)⟩|rfl⟩
  rw[nt]at this
  rwa [show 1+((0:Nat):Int)+left=left+1 by omega]at this
theorem M4 (l:List Int) (h:(nN l).2.1=0):(qr (nN l).1 1 256).1=true∧Mild (nN l).1:=by
 rw[Me]at h⊢
 unfold zJ at h⊢
 by_cases h1:4096<l.length
 ·rw[dP h1]at h;exact absurd (show(2:Int)=0 from h) (by decide)
 rw[dN h1]at h⊢
 by_cases q:(nj l 8 (d_ l 0) 256).2.2.2≠0
 ·rw[dP q]at h;exact absurd h q
 rw[dN q]at h⊢
 by_cases B:(nj l 8 (d_ l 0) 256).2.1<l.length
 ·rw[dP B]at h;exact absurd (show(50:Int)=0 from h) (by decide)
 rw[dN B]
 obtain⟨a,b,c,m⟩:=MY l (by omega) 8 (d_ l 0) 256 (by omega)
 obtain⟨_,_,D,_⟩:=BI l 8 (d_ l 0) 256 (oS (eN _)).2 (by omega)
 show(qr (nj l 8 (d_ l 0) 256).1 1 256).1=true∧Mild (nj l 8 (d_ l 0) 256).1
 exact⟨(KU _).2 ⟨a,by omega,b⟩,m⟩
end Go.Proofs.YtceddodfddlncaaGreatDoor
namespace Go.Proofs.YtceddodfddlncaaGreatDoor
open Go Go.RowKit Tryz
theorem B9 {j:J} (h:Rt j) (hz:pZ j≤256):Sm j:=by
 induction j using J.ind with
 |h kind n s l k ih=>
  cases h with
  |mk _ _ _ _ _ a1 a2 a3 a4=>
   have B: ∀(l:List J),l.length≤nt l∧ ∀x∈l,pZ x≤nt l:=fun l=>by
    induction l with
    |nil=>exact⟨by simp,fun x q=>by cases q⟩
    |cons y r ihr=>
     have:=yS y
     rw[nt]
     refine⟨by simp;omega,fun x q=> ?_⟩
     rcases eF.1 q with rfl|q
     ·omega
     ·have:=ihr.2 x q;omega
   rw[pZ]at hz
   have E:k.length≤l.length:=by
    by_cases D:kind=5
    ·exact iw (a2 D).1
    ·rw[Fg a1 D];exact eN _
   have:=(B l).1
   exact .mk (by omega) (by omega) (fun x q=>ih x q (a4 x q) (by have:=(B l).2 x q;omega))
theorem M5 {l:List Int} (h:(nN l).2.1=0):Sm (nN l).1∧((nN l).1.kind=5→(nN l).1.k.length≤256∧ ∀t∈(nN l).1.k,t.size≤1000000000):=by
 obtain⟨h1,E⟩:=M4 l h
 obtain⟨B,q,_⟩:=(KU _).1 h1
 refine⟨B9 B q,fun D=> ?_⟩
 cases hp:(nN l).1 with
 |mk kind n s ls k=>
  rw[hp]at E B q D
  cases B with
  |mk _ _ _ _ _ a1 a2 a3 a4=>
   cases E with
   |mk _ _ _ _ _ m1 m2 m3=>
    refine⟨?_,m2⟩
    have:=(a2 D).1
    have F: ∀l:List J,l.length≤nt l:=fun l=>by
     induction l with
     |nil=>exact eN _
     |cons y r ihr=>have:=yS y;rw[nt];simp;omega
    have:=F ls
    rw[pZ]at q
    show k.length≤256
    omega
theorem BE:(prog.info? 63).map (·.zero)=some (some (.agg zeros5.toArray)):=by kernel_rfl
theorem zR (t:ByteArray) (W:World) (q:t.size≤9223372036854775807):RepJ W (oY t) (.agg #[.int .i64 3,.int .i64 0,.string t,.slice none 0 0,.slice none 0 0]):=by
 rw[oY,RepJ]
 exact⟨_,none,0,rfl,q,⟨none,0,rfl,by simp,fun h=>absurd rfl h⟩,by simp,fun h=>absurd rfl h⟩
theorem KA (j:J) (V:Nat) (c0 c1 c2 c3 h0 h1 h2 h3 h4:Value) (rest:List Value) (name F:ByteArray) (w:World) (aq:Blk w V 65 (c0::c1::c2::c3::h0::h1::h2::h3::h4::rest)) (hj:RepJ w j (.agg #[h0,h1,h2,h3,h4])) (ad: ∀x∈j.l,Sm x) (Y:F.size≤9223372036854775807):
  Calls prog 33 #[.pointer (some ⟨V,0,none⟩),.string name,.string F] w fun e w'=>e= .returned (.bool (nk j name F))∧Below w.heap.size w w':=by
 have HG:=dM (E0 j _ name w hj ad)
 have av:=dM (fun W:World=>If F W Y)
 obtain⟨g,hg⟩:=yaa ((oD j name).getD zeroJ)
 rw[←hg]at HG
 have HS:=dM (fun(W:World) (va:Value) (ha:RepJ W g va)=>Ce g (oY F) va _ W ha (zR F W Y))
 have HR:Hid (nk j name F=s9 g (oY F)):=dM (by rw[hg];rfl)
 obtain⟨r,hr⟩:=yaa (s9 g (oY F))
 rw[HR.out,←hr]
 rw[←hr]at HS
 clear hg hr hj ad Y HR
 go_enter func33,ntmps33
 go_wp2_with(first
  |(refine pO rfl (some 13) rfl _ (.tmp 12) rfl V 4 rfl _ _ aq [h0,h1,h2,h3,h4] (fun i v D=>by match i,D with|0,D=>exact D|1,D=>exact D|2,D=>exact D|3,D=>exact D|4,D=>exact D) _ ed rfl m8 ?_;try go_frame)
  |(go_at_call 66;(with_reducible refine HG.out.mono ?_);rintro e w1 ⟨v,rfl,Z,E⟩;have ab:=dM E;have ah:=dM Z;obtain⟨vk,A,c,rfl, -,⟨K,d,rfl, -, -⟩, -, -⟩:=Z.open;clear E Z HG)
  |(refine nG rfl (some 7) rfl _ rfl _ BE ?_;intro B w2 af ag I;have ap:=dM (ab.out.grown I ab.out.size (by simp));have ak:=dM I;have ai:=dM af;clear I af;try go_frame)
  |(refine nn rfl none rfl _ (.tmp 7) (.tmp 16) rfl B 0 [_,_,_,_,_] rfl rfl _ _ ag (by simp[zeros5]) m8 (by intro v D;simp at D;rcases D with rfl|rfl|rfl|rfl|rfl<;>rfl) ?_;intro G aa I;rw[nr _ _ (by simp[zeros5])]at aa;have R:=dM aa;have ao:=dM (ap.out.grown I ap.out.size (by intro k hk;injection hk with hk;have:=ai.out;have:=ab.out.size;omega));have aj:=dM I;clear I ag aa;try go_frame))
 have ae:RepJ G g (.agg #[.int .i64 g.kind,.int .i64 g.n,.string g.s,.slice A g.l.length c,.slice K g.k.length d]):=by
  have k1:=RepS.keeps (Keeps.grown ak.out (fun b _ e=>by cases e)) (fun _ h _=>h) _ _ (RepJ.toS ah.out)
  exact RepS.toJ _ _ (RepS.keeps (Keeps.grown aj.out (fun b E e=>by injection e with e;have:=ai.out;have E:b<w1.heap.size:=E;omega)) (fun _ h _=>h) _ _ k1)
 have Q:G.cell? ⟨B,0,none⟩=some (.int .i64 g.kind):=R.out.cell 0
 have O:G.cell? ⟨B,1,none⟩=some (.int .i64 g.n):=R.out.cell 1
 have N:G.cell? ⟨B,2,none⟩=some (.string g.s):=R.out.cell 2
 have M:G.cell? ⟨B,3,none⟩=some (.slice A g.l.length c):=R.out.cell 3
 have L:G.cell? ⟨B,4,none⟩=some (.slice K g.k.length d):=R.out.cell 4
 have ax:=dM ae
 clear ae ah ak aj R
 refine fh (S:=fun X=>X.cell? ⟨B,0,none⟩=some (.int .i64 g.kind)∧X.cell? ⟨B,1,none⟩=some (.int .i64 g.n)∧X.cell? ⟨B,2,none⟩=some (.string g.s)∧X.cell? ⟨B,3,none⟩=some (.slice A g.l.length c)∧X.cell? ⟨B,4,none⟩=some (.slice K g.k.length d)) (by kernel_rfl) ⟨Q,O,N,M,L⟩ (fun ar=> ?_)
 refine mZ 0 ?_
 try simp only[k_]
 refine mZ 1 ?_
 try simp only[k_]
 refine pn 2 (fun K' U=> ?_)
 go_simp
 go_at_call 68
 (with_reducible refine(av.out _).mono ?_)
 rintro e w4 ⟨rfl,E⟩
 have am:=dM (ao.out.drew.trans (E.mono ao.out.drew.size))
 have aw:=dM (RepJ.below E _ _ (RepJ.below (dU _ G).drew _ _ ax.out))
 have q:=fun i v (h:G.cell? ⟨B,i,none⟩=some v)=>(E.cell (p:=⟨B,i,none⟩) (nc h)).trans h
 refine U.out _ _ ⟨q 0 _ Q,q 1 _ O,q 2 _ N,q 3 _ M,q 4 _ L⟩ (fun au=> ?_)
 clear U K' E ar q Q O N M L
 try simp only[k_]
 refine pn 3 (fun K' U=> ?_)
 go_simp
 go_at_call 67
 (with_reducible refine(HS.out _ _ aw.out).mono ?_)
 rintro e w5 ⟨rfl,E⟩
 have ay:=yab am E
 have q:=fun i v (h:w4.cell? ⟨B,i,none⟩=some v)=>(E.cell (p:=⟨B,i,none⟩) (nc h)).trans h
 obtain⟨Q,O,N,M,L⟩:=au
 refine U.out _ _ ⟨q 0 _ Q,q 1 _ O,q 2 _ N,q 3 _ M,q 4 _ L⟩ (fun az=> ?_)
 clear U K' E q Q O N M L
 try simp only[k_]
 refine mZ 4 ?_
 try simp only[k_]
 refine gC (by kernel_rfl) ?_ _
 go_wp2
 go_ret
 exact⟨rfl,ay.out⟩
def PtAt (w:World) (g:Nat) (v:Value) (xs:List Int):Prop:= ∃A c,v= .slice A xs.length c∧xs.length≤c∧Src w g A xs
theorem PtAt.grown {w w':World} {g:Nat} {v:Value} {xs:List Int} (h:PtAt w g v xs) {row:Option Nat} (E:w.grownBy w' row) (B:row=none∨row=some g):PtAt w' g v xs:=by
 obtain⟨A,c,e,D,q⟩:=h;exact⟨A,c,e,D,q.grown E B⟩
def DQ (cs:List Value):Prop:= ∀v∈cs,∀x,v≠ .int .u8 x
theorem PtAt.of {w:World} {g:Nat} {t:TypeId} {cs:List Value} {A:Option Addr} {c:Nat} {xs:List Int} (E:Lies w A xs) (F:xs.length≤c) (G:Blk w g t cs) (D:DQ cs):PtAt w g (.slice A xs.length c) xs:=by
 refine⟨A,c,rfl,F,fun q=> ?_⟩
 obtain⟨b,o,e,h1,I,B⟩:=E q
 refine⟨b,o,e,fun L=> ?_,I,B⟩
 subst L
 have h0:=B 0 (.int .u8 (xs.getD 0 0)) (pf .u8 xs 0 q)
 rw[G.cell]at h0
 exact D _ (lr h0) _ rfl
theorem Kv {cs:List Value} (h:DQ cs) (i:Nat) (v:Value) (q: ∀x,v≠ .int .u8 x):DQ (cs.set i v):=fun u B x=>by
 rcases List.mem_or_eq_of_mem_set B with h'|rfl
 ·exact h u h' x
 ·exact q x
theorem LiesT.grown {w w':World} {b o:Nat} {q:List ByteArray} {row:Option Nat} (h:LiesT w b o q) (D:w.grownBy w' row) (B:some b≠row):LiesT w' b o q:=fun i t hi=>D.cell (h i t hi) B
def vW (w:World) (ob:Nat) (text:ByteArray) (rest:List Value) (e:Ending) (w':World):Prop:=
 w.grownBy w' (some ob)∧((nD (a_ text)=none∧e= .returned (.bool false))∨
  ∃a b c body v1 v2 v3,nD (a_ text)=some (a,b,c)∧e= .returned (.bool true)∧a_ body=a++46::b∧Blk w' ob 65 (.string body::v1::v2::v3::rest)∧PtAt w' ob v1 (g_ a)∧PtAt w' ob v2 (g_ b)∧PtAt w' ob v3 (g_ c))
theorem Dt {l:List Int} (h:(px l).length≠3):nD l=none:=by
 unfold nD
 split
 ·rename_i a b c e;rw[e]at h;exact absurd rfl h
 ·rfl
theorem rN:(prog.info? 46).map (·.size)=some 1:=by kernel_rfl
theorem Fc (Q:ByteArray) (B:Nat) (bd p1 p2 p3:Value) (rest:List Value) (w:World) (aq:Blk w B 65 (bd::p1::p2::p3::rest)) (ae:DQ (bd::p1::p2::p3::rest)) (hM:MaxLW w) (hs:Q.size≤4096):
  Calls prog 30 #[.pointer (some ⟨B,0,none⟩),.string Q] w (vW w B Q rest):=by
 have az:=dM (wO Q w hM (by omega))
 have aB:=aq.lt
 have aI:=dM aq
 have aE:=dM ae
 have ar:=dM (j_ Q)
 clear aq ae hM
 go_enter func30,ntmps30
 go_wp2_with(go_at_call 62;fail)
 refine az.out.mono ?_
 rintro e w1 ⟨PS,av,rfl,R,au,q⟩
 have ad:=dM q
 have aA:=dM av
 have HL:=dM R
 have aD:=dM au
 obtain⟨n,hn⟩:=yaa PS.length
 rw[←hn]
 have HN:=dM hn
 clear q av R hn au az
 by_cases h3:n=3
 case neg=>
  have aK:((n:Int)==3)=false:=by rw[dY];omega
  have aJ: ¬(n:Int)=3:=by omega
  go_wp2
  go_ret
  exact⟨(od ad.out none).but _,.inl ⟨Dt (by rw[←aA.out,iy,←HN.out];exact h3),rfl⟩⟩
 case pos=>
  subst h3
  obtain⟨F,E,L,rfl⟩: ∃a b c,PS=[a,b,c]:=by
   match PS,HN.out with
   |[a,b,c],_=>exact⟨a,b,c,rfl⟩
  have ao:px (a_ Q)=[a_ F,a_ E,a_ L]:=aA.out.symm
  have ak:Hid (nD (a_ Q)=if nM (a_ F)= -1∧nM (a_ E)= -1∧nM (a_ L)= -1 then some (a_ F,a_ E,a_ L)else none):=dM (by unfold nD;rw[ao])
  have af:=fun p hp=>(Il (a_ Q) p hp).2.2
  rw[ao]at af
  have za:F.size≤4096:=by have:=af (a_ F) (by simp);rw[j_,ar.out]at this;omega
  have zb:E.size≤4096:=by have:=af (a_ E) (by simp);rw[j_,ar.out]at this;omega
  have zc:L.size≤4096:=by have:=af (a_ L) (by simp);rw[j_,ar.out]at this;omega
  have aw: ∀g,w.heap.size=g→some g≠some B:=fun g hg e=>by injection e with e;omega
  have aF:=dM (aw _ rfl)
  clear af ao aw HN
  go_wp2
  go_loopw[17] (fun i wr=> ∃(k:Nat) (v1 v2 v3:Value),k≤3∧i= .int .i64 (k:Int)∧Blk wr B 65 (bd::v1::v2::v3::rest)∧DQ (bd::v1::v2::v3::rest)∧w1.grownBy wr (some B)∧(0<k→nM (a_ F)= -1∧PtAt wr B v1 (g_ (a_ F)))∧(1<k→nM (a_ E)= -1∧PtAt wr B v2 (g_ (a_ E)))∧(2<k→nM (a_ L)= -1∧PtAt wr B v3 (g_ (a_ L)))) (fun i _=>3-(intOf i).toNat)
  case atStart=>exact⟨0,p1,p2,p3,by decide,rfl,aI.out.below ad.out aB,aE.out,ov _ _,fun h=>absurd h (by decide),fun h=>absurd h (by decide),fun h=>absurd h (by decide)⟩
  case round=>
   obtain⟨k,v1,v2,v3,hk,rfl,ap,ae,I,q1,q2,q3⟩:=hrel
   have am:=dM ap
   have ab:=dM ae
   have Z:=dM I
   have W:=dM (And.intro q1 (And.intro q2 q3))
   have ah:=dM (HL.out.grown I aF.out)
   have aj:B<wr.heap.size:=ap.lt
   clear ap ae I q1 q2 q3
   rcases(show k=0∨k=1∨k=2∨k=3 by omega)with rfl|rfl|rfl|rfl
   ·have y:wr.cell? ⟨w.heap.size,0,none⟩=some (.string F):=by have:=ah.out 0 F rfl;rwa [eL]at this
    by_cases M:nM (a_ F)= -1
    ·have D:=dM (Lz F wr (by omega) M)
     go_wp2_with(first
      |(go_at_call 63;(with_reducible refine D.out.mono ?_);rintro e V ⟨A,c,rfl,Y,R,q⟩;have O:=dM q;have N:=am.out.below q aj;have ag:=dM (PtAt.of R Y N ab.out);clear Y R q D)
      |(refine tm rfl none rfl _ (.tmp 34) (.tmp 31) rfl B 1 (.slice A (g_ (a_ F)).length c) rfl rfl rfl _ _ N (by simp) rN ?_;intro w5 U I;have aa:=dM U;have G:=dM I;clear U I N;try go_frame))
     go_roundw
     case rel=>exact⟨1,_,v2,v3,by decide,by go_num,aa.out,Kv ab.out 1 _ (fun x h=>by cases h),(Z.out.trans ((od O.out none).but _)).trans G.out,fun _=>⟨M,ag.out.grown G.out (.inr rfl)⟩,fun h=>absurd h (by decide),fun h=>absurd h (by decide)⟩
     case measure=>simp[intOf]
    ·have D:=dM (LA F wr (by omega) M)
     have HR:Hid (nD (a_ Q)=none):=dM (by rw[ak.out,dN (fun h=>M h.1)])
     go_wp2_with(go_at_call 63;(with_reducible refine D.out.mono ?_);rintro e V ⟨rfl,X⟩;have ai:=dM (show wr.grownBy V (some B)from by rw[X];exact dO _ _ _);clear X D)
     go_ret
     exact⟨((od ad.out none).but _).trans (Z.out.trans ai.out),.inl ⟨HR.out,rfl⟩⟩
   ·have y:wr.cell? ⟨w.heap.size,1,none⟩=some (.string E):=by have:=ah.out 1 E rfl;rwa [eL]at this
    by_cases M:nM (a_ E)= -1
    ·have D:=dM (Lz E wr (by omega) M)
     go_wp2_with(first
      |(go_at_call 63;(with_reducible refine D.out.mono ?_);rintro e V ⟨A,c,rfl,Y,R,q⟩;have O:=dM q;have N:=am.out.below q aj;have ag:=dM (PtAt.of R Y N ab.out);clear Y R q D)
      |(refine tm rfl none rfl _ (.tmp 34) (.tmp 31) rfl B 2 (.slice A (g_ (a_ E)).length c) rfl rfl rfl _ _ N (by simp) rN ?_;intro w5 U I;have aa:=dM U;have G:=dM I;clear U I N;try go_frame))
     go_roundw
     case rel=>exact⟨2,v1,_,v3,by decide,by go_num,aa.out,Kv ab.out 2 _ (fun x h=>by cases h),(Z.out.trans ((od O.out none).but _)).trans G.out,fun _=>⟨(W.out.1 (by decide)).1,(((W.out.1 (by decide)).2.grown (od O.out none) (.inl rfl)).grown G.out (.inr rfl))⟩,fun _=>⟨M,ag.out.grown G.out (.inr rfl)⟩,fun h=>absurd h (by decide)⟩
     case measure=>simp[intOf]
    ·have D:=dM (LA E wr (by omega) M)
     have HR:Hid (nD (a_ Q)=none):=dM (by rw[ak.out,dN (fun h=>M h.2.1)])
     go_wp2_with(go_at_call 63;(with_reducible refine D.out.mono ?_);rintro e V ⟨rfl,X⟩;have ai:=dM (show wr.grownBy V (some B)from by rw[X];exact dO _ _ _);clear X D)
     go_ret
     exact⟨((od ad.out none).but _).trans (Z.out.trans ai.out),.inl ⟨HR.out,rfl⟩⟩
   ·have y:wr.cell? ⟨w.heap.size,2,none⟩=some (.string L):=by have:=ah.out 2 L rfl;rwa [eL]at this
    by_cases M:nM (a_ L)= -1
    ·have D:=dM (Lz L wr (by omega) M)
     go_wp2_with(first
      |(go_at_call 63;(with_reducible refine D.out.mono ?_);rintro e V ⟨A,c,rfl,Y,R,q⟩;have O:=dM q;have N:=am.out.below q aj;have ag:=dM (PtAt.of R Y N ab.out);clear Y R q D)
      |(refine tm rfl none rfl _ (.tmp 34) (.tmp 31) rfl B 3 (.slice A (g_ (a_ L)).length c) rfl rfl rfl _ _ N (by simp) rN ?_;intro w5 U I;have aa:=dM U;have G:=dM I;clear U I N;try go_frame))
     go_roundw
     case rel=>exact⟨3,v1,v2,_,by decide,by go_num,aa.out,Kv ab.out 3 _ (fun x h=>by cases h),(Z.out.trans ((od O.out none).but _)).trans G.out,fun _=>⟨(W.out.1 (by decide)).1,(((W.out.1 (by decide)).2.grown (od O.out none) (.inl rfl)).grown G.out (.inr rfl))⟩,fun _=>⟨(W.out.2.1 (by decide)).1,(((W.out.2.1 (by decide)).2.grown (od O.out none) (.inl rfl)).grown G.out (.inr rfl))⟩,fun _=>⟨M,ag.out.grown G.out (.inr rfl)⟩⟩
     case measure=>simp[intOf]
    ·have D:=dM (LA L wr (by omega) M)
     have HR:Hid (nD (a_ Q)=none):=dM (by rw[ak.out,dN (fun h=>M h.2.2)])
     go_wp2_with(go_at_call 63;(with_reducible refine D.out.mono ?_);rintro e V ⟨rfl,X⟩;have ai:=dM (show wr.grownBy V (some B)from by rw[X];exact dO _ _ _);clear X D)
     go_ret
     exact⟨((od ad.out none).but _).trans (Z.out.trans ai.out),.inl ⟨HR.out,rfl⟩⟩
   ·obtain⟨f1,g1⟩:=W.out.1 (by decide)
    obtain⟨f2,g2⟩:=W.out.2.1 (by decide)
    obtain⟨f3,g3⟩:=W.out.2.2 (by decide)
    have HG:=dM (And.intro g1 (And.intro g2 g3))
    have HR:Hid (nD (a_ Q)=some (a_ F,a_ E,a_ L)):=dM (by rw[ak.out,dP ⟨f1,f2,f3⟩])
    have ax:LiesT wr w.heap.size 0 [F,E]:=fun i t hi=>by
     match i,hi with
     |0,hi=>exact ah.out 0 t hi
     |1,hi=>exact ah.out 1 t hi
    have HJ:=dM (KN F E w.heap.size 0 3 wr ax (dX aD.out Z.out.size) (by decide) (by omega))
    have aH:=dM (fun w' (h:Below wr.heap.size wr w')=>am.out.below h aj)
    clear f1 f2 f3 g1 g2 g3 ax
    go_wp2_with(first
     |(go_at_call 50;(with_reducible refine HJ.out.mono ?_);rintro e V ⟨aC,ay,rfl,q⟩;have O:=dM q;have aG:=dM ay;have N:=aH.out _ q;clear q ay HJ)
     |(refine tm rfl none rfl _ (.tmp 41) (.tmp 39) rfl B 0 (.string aC) rfl rfl rfl _ _ N (by simp) (by kernel_rfl) ?_;intro w5 U I;have aa:=dM U;have G:=dM I;clear U I N;try go_frame))
    go_ret
    exact⟨((od ad.out none).but _).trans ((Z.out.trans ((od O.out none).but _)).trans G.out),.inr ⟨_,_,_,_,_,_,_,HR.out,rfl,aG.out,aa.out,(HG.out.1.grown (od O.out none) (.inl rfl)).grown G.out (.inr rfl),(HG.out.2.1.grown (od O.out none) (.inl rfl)).grown G.out (.inr rfl),(HG.out.2.2.grown (od O.out none) (.inl rfl)).grown G.out (.inr rfl)⟩⟩
theorem Es:(prog.info? 41).map (·.size)=some 2:=by kernel_rfl
def rC (w:World) (ob:Nat) (front:List Value) (r:Option mV) (e:Ending) (w':World):Prop:=
 w.grownBy w' (some ob)∧((r=none∧e= .returned (.bool false))∨ ∃k,r=some k∧e= .returned (.bool true)∧Blk w' ob 65 (front++[.string k.1,.string k.2]))
theorem rk (p:mV→Bool) (ks:List mV) {i:Nat} (h:i<ks.length):(ks.drop i).find? p=if p ks[i]=true then some ks[i]else(ks.drop (i+1)).find? p:=by
 rw[eD h,List.find?_cons]
 cases p ks[i]<;>rfl
theorem vq (j:J) (ks:List mV) (A:Option Addr) (n c:Nat) (F:Nat) (c0 c1 c2 c3 h0 h1 U Q O k0 k1:Value) (w:World) (aa:Blk w F 65 [c0,c1,c2,c3,h0,h1,U,Q,O,k0,k1]) (hj:RepS w (fun b=>b≠F) j (.agg #[h0,h1,U,Q,O])) (ae: ∀x∈j.l,Sm x)
  (hn:ks.length=n) (ay:n≤1000000) (Z:KeyOk ks) (hr:RingAt w A ks):
  Calls prog 36 #[.pointer (some ⟨F,0,none⟩),.slice A n c] w (rC w F [c0,c1,c2,c3,h0,h1,U,Q,O] (ks.find? fun k=>nk j sKid k.1)):=by
 have Y:=aa.lt
 have am:=dM aa
 have HJ:=dM hj
 have au:=dM ae
 have HN:=dM hn
 have HK:=dM Z
 have HR:=dM hr
 obtain⟨R,hR⟩:=yaa ((ks.find? fun k=>nk j sKid k.1))
 rw[←hR]
 have av:=dM hR
 clear aa hj ae hn Z hr hR
 go_enter func36,ntmps36
 go_wp2
 go_loopw[9] (fun i wr=> ∃k:Nat,k≤n∧i= .int .i64 (k:Int)∧R=((ks.drop k).find? fun k=>nk j sKid k.1)∧Below w.heap.size w wr) (fun i _=>n-(intOf i).toNat)
 case atStart=>exact⟨0,eN _,rfl,by rw[av.out];rfl,dU _ _⟩
 case round=>
  obtain⟨k,Z,rfl,af,ah⟩:=hrel
  have E:=dM ah
  have ak:=dM af
  clear ah af
  by_cases ap:k<n
  ·have M:k<ks.length:=by rw[HN.out];exact ap
   obtain⟨b,o,rfl,_,x0,x1⟩:=(HR.out.below E.out).at M
   have W:Hid (R=if nk j sKid ks[k].1=true then some ks[k]else(ks.drop (k+1)).find? fun k=>nk j sKid k.1):=dM (by rw[ak.out,rk _ ks M])
   have X:=(HK.out.get M).1
   obtain⟨q,hq⟩:=yaa (ks[k])
   rw[←hq]at x0 x1 W X
   obtain⟨B,D⟩:=q
   have N:Below wr.heap.size wr (wr.alloc (.cells #[.string B,.string D] 41)):=nO _ _
   have aj:=dM (KA j F c0 c1 c2 c3 h0 h1 U Q O [k0,k1] sKid B (wr.alloc (.cells #[.string B,.string D] 41)) ((am.out.below E.out Y).below N (dX Y E.out.size)) (RepJ.below N _ _ (RepJ.below E.out _ _ (RepS.toJ _ _ HJ.out))) au.out X)
   have ao:=dM N
   obtain⟨V,ab⟩:=yaa (nk j sKid B)
   rw[show nk j sKid (B,D).1=V from ab.symm]at W
   rw[←ab]at aj
   have az:(0:Int)≤(k:Int):=by omega
   have aq:(k:Int)<(n:Int):=by omega
   have L:(wr.alloc (.cells #[.string B,.string D] 41)).cell? ⟨wr.heap.size,0,none⟩=some (.string B):=by simp
   have I:(wr.alloc (.cells #[.string B,.string D] 41)).cell? ⟨wr.heap.size,1,none⟩=some (.string D):=by simp
   clear hq M ab X N
   go_wp2_with fail
   rw[show(⟨#[107,105,100]⟩:ByteArray)=sKid from rfl]
   refine aj.out.mono ?_
   rintro e w3 ⟨rfl,G⟩
   have ad:=dM (E.out.trans ((ao.out.trans (G.mono ao.out.size)).mono E.out.size))
   cases V with
   |true=>
    have z0:=(G.cell (nc L)).trans L
    have z1:=(G.cell (nc I)).trans I
    have ar:=am.out.below ad.out Y
    have HF:Hid (R=some (B,D)):=dM (by rw[W.out,dP rfl])
    clear G L I
    go_wp2_with(refine nn rfl none rfl _ (.tmp 20) (.tmp 18) rfl F 9 [.string B,.string D] rfl rfl _ _ ar (by simp) Es (by intro v hv;simp at hv;rcases hv with rfl|rfl<;>rfl) ?_;intro w4 ai ag;have ax:=dM ai;have aw:=dM ag;clear ai ag;try go_frame)
    go_ret
    exact⟨((od ad.out none).but _).trans aw.out,.inr ⟨_,HF.out,rfl,ax.out⟩⟩
   |false=>
    clear G L I
    go_wp2
    go_roundw
    case rel=>exact⟨k+1,by omega,by go_num,by rw[W.out,dN (by decide)],ad.out⟩
    case measure=>simp[intOf];omega
  ·obtain rfl:k=n:=by omega
   have aq: ¬(k:Int)<(k:Int):=by omega
   go_wp2
   go_ret
   exact⟨(od E.out none).but _,.inl ⟨by rw[ak.out,fB (iw HN.out)];rfl,rfl⟩⟩
theorem sq (E:Nat) (I ab G:ByteArray) (v1 v2 h0 h1 h2 h3 h4:Value) (O:Option Addr) (n c:Nat) (T:List Int) (w:World) (Y:Blk w E 65 [.string I,v1,v2,.slice O n c,h0,h1,h2,h3,h4,.string ab,.string G]) (hn:T.length=n) (aB:n≤1000000) (hT:Bytes T) (hl:Lies w O T)
  (hs:G.size≤1000000) (M:I.size≤1000000) (ht:Tabs w):
  Calls prog 37 #[.pointer (some ⟨E,0,none⟩)] w fun e w'=>e= .returned (.bool (decide (nA (a_ G) (a_ I)=T)))∧Below w.heap.size w w':=by
 have ae:=Y.lt
 have ak:=dM (fun(W:World) (hW:Below w.heap.size w W)=>yR ab G I W hs M (ht.below hW))
 have N:Hid ((nA (a_ G) (a_ I)).length=32):=dM (ww _)
 have ar:Hid (Bytes (nA (a_ G) (a_ I))):=dM (BU _)
 obtain⟨D,hD⟩:=yaa (nA (a_ G) (a_ I))
 rw[←hD]at ak N ar⊢
 have ao:=dM (fun(W:World) (g:Nat) (h:Blk W g 82 (c_ .u8 D)) (hW:Below w.heap.size w W)=>by
  have:=tS (some ⟨g,0,none⟩) O 32 c D T W (by rw[N.out];decide) (by rw[hn];omega) ar.out hT (Lies.whole h) (hl.below hW)
  rw[N.out,hn]at this
  refine this.mono (R':=fun e w'=>e= .returned (.bool (decide (D=T)))∧Below w.heap.size w w') ?_
  rintro e w' ⟨rfl,k,rfl⟩
  exact⟨rfl,rG hW k⟩)
 have aA:=fun(g:Nat)=>FF (P:=prog) 82 5 32 gG s5 g 0 (by omega)
 obtain⟨r,hr⟩:=yaa (decide (D=T))
 rw[←hr]at ao⊢
 have x0:w.cell? ⟨E,0,none⟩=some (.string I):=Y.cell 0
 have x1:w.cell? ⟨E,9,none⟩=some (.string ab):=Y.cell 9
 have x2:w.cell? ⟨E,10,none⟩=some (.string G):=Y.cell 10
 have x3:w.cell? ⟨E,3,none⟩=some (.slice O n c):=Y.cell 3
 have R:Hid (∀X,Below w.heap.size w X→X.cell? ⟨E,0,none⟩=some (.string I)∧X.cell? ⟨E,9,none⟩=some (.string ab)∧X.cell? ⟨E,10,none⟩=some (.string G)∧X.cell? ⟨E,3,none⟩=some (.slice O n c)):=dM (fun X Z=>⟨(Z.cell (p:=⟨E,0,none⟩) ae).trans x0,(Z.cell (p:=⟨E,9,none⟩) ae).trans x1,(Z.cell (p:=⟨E,10,none⟩) ae).trans x2,(Z.cell (p:=⟨E,3,none⟩) ae).trans x3⟩)
 have aq:Hid (∀X,Below w.heap.size w X→X.cell? ⟨E,3,none⟩=some (.slice O n c)):=dM (fun X Z=>(Z.cell (p:=⟨E,3,none⟩) ae).trans x3)
 have V:=dM (dU w.heap.size w).drew
 clear Y hl ht hD hr hT hs M x0 x1 x2 x3
 go_enter func37,ntmps37
 go_wp2_with fail
 refine fh (S:=fun X=>X.cell? ⟨E,0,none⟩=some (.string I)∧X.cell? ⟨E,9,none⟩=some (.string ab)∧X.cell? ⟨E,10,none⟩=some (.string G)∧X.cell? ⟨E,3,none⟩=some (.slice O n c)) (by kernel_rfl) (R.out _ V.out) (fun ap=> ?_)
 refine mZ 0 ?_
 try simp only[k_]
 refine mZ 1 ?_
 try simp only[k_]
 refine mZ 2 ?_
 try simp only[k_]
 refine mZ 3 ?_
 try simp only[k_]
 refine mZ 4 ?_
 try simp only[k_]
 refine mZ 5 ?_
 try simp only[k_]
 refine mZ 6 ?_
 try simp only[k_]
 refine mZ 7 ?_
 try simp only[k_]
 refine eO (rs:=[8,9]) (by kernel_rfl) (by simp) ?_
 refine en rfl (fun K B=> ?_) (en rfl (fun K B=> ?_) eM)
 ·go_simp
  go_at_call 53
  (with_reducible refine(ak.out _ V.out).mono ?_)
  rintro e wC ⟨rfl,M⟩
  have ai:=yab V M
  refine B.out _ _ (R.out _ ai.out) (fun aw=> ?_)
  clear B K M
  try simp only[k_]
  refine pn 9 (fun K B=> ?_)
  rw[dP (by kernel_rfl)]
  refine M_ 82 (c_ .u8 (List.replicate 32 0)) rfl z24 ?_
  intro g wB hg F ag
  have U:=dM (ai.out.grown ag ai.out.size (fun b e=>by cases e))
  have ax:w.heap.size≤g:=dV ai.out.size hg
  have aa:=U
  refine B.out _ _ (R.out _ U.out) (fun av=> ?_)
  clear B K ag hg
  try simp only[k_]
  refine pn 10 (fun K B=> ?_)
  rw[dP (by kernel_rfl)]
  refine Na 82 (.tmp 3) (.tmp 12) rfl g 0 (c_ .u8 D) rfl rfl _ _ F (by simp[N.out]) (by rw[rP,b_,N.out]) (oW _ _) ?_
  intro wz Q af
  rw[nr _ _ (by simp[N.out])]at Q
  have L:Below w.heap.size w wz:=aa.out.grown af aa.out.size (fun b e=>by injection e with e;omega)
  refine B.out _ _ (R.out _ L) (fun aj=> ?_)
  clear B K F af
  have F:=Q
  clear Q
  try simp only[k_]
  refine gC (by kernel_rfl) ?_ _
  have ay:=dM F
  have az:=dM L
  obtain⟨q0,q1,q2,q3⟩:=aj
  have q:=q3
  have am:=dM (ao.out wz.drew g F.drew L.drew)
  clear F L q0 q1 q2
  go_wp2_with fail
  refine fh (S:=fun X=>X.cell? ⟨E,3,none⟩=some (.slice O n c)) (by kernel_rfl) q (fun ap=> ?_)
  refine mZ 0 ?_
  try simp only[k_]
  refine mZ 1 ?_
  try simp only[k_]
  refine mZ 2 ?_
  try simp only[k_]
  refine mZ 3 ?_
  try simp only[k_]
  refine mZ 4 ?_
  try simp only[k_]
  refine mZ 5 ?_
  try simp only[k_]
  refine pn 6 (fun K B=> ?_)
  go_simp
  go_at_call 69
  (with_reducible refine am.out.mono ?_)
  rintro e wy ⟨rfl,ad⟩
  have ah:=dM (show Below w.heap.size w wy from ad)
  refine B.out _ _ (aq.out _ ah.out) (fun au=> ?_)
  clear B K ad
  try simp only[k_]
  refine mZ 7 ?_
  try simp only[k_]
  refine gC (by kernel_rfl) ?_ _
  go_wp2
  go_ret
  exact⟨rfl,ah.out⟩
 ·rw[dP (by kernel_rfl)]
  refine M_ 82 (c_ .u8 (List.replicate 32 0)) rfl z24 ?_
  intro g wB hg F ag
  have ax:w.heap.size≤g:=dV V.out.size hg
  have U:=dM (V.out.grown ag V.out.size (fun b e=>by cases e))
  refine B.out _ _ (R.out _ U.out) (fun aw=> ?_)
  clear B K ag hg
  try simp only[k_]
  refine pn 8 (fun K B=> ?_)
  go_simp
  go_at_call 53
  (with_reducible refine(ak.out _ U.out).mono ?_)
  rintro e wC ⟨rfl,M⟩
  have aa:=yab U M
  have F:=F.below M F.lt
  refine B.out _ _ (R.out _ aa.out) (fun av=> ?_)
  clear B K M
  try simp only[k_]
  refine pn 10 (fun K B=> ?_)
  rw[dP (by kernel_rfl)]
  refine Na 82 (.tmp 3) (.tmp 12) rfl g 0 (c_ .u8 D) rfl rfl _ _ F (by simp[N.out]) (by rw[rP,b_,N.out]) (oW _ _) ?_
  intro wz Q af
  rw[nr _ _ (by simp[N.out])]at Q
  have L:Below w.heap.size w wz:=aa.out.grown af aa.out.size (fun b e=>by injection e with e;omega)
  refine B.out _ _ (R.out _ L) (fun aj=> ?_)
  clear B K F af
  have F:=Q
  clear Q
  try simp only[k_]
  refine gC (by kernel_rfl) ?_ _
  have ay:=dM F
  have az:=dM L
  obtain⟨q0,q1,q2,q3⟩:=aj
  have q:=q3
  have am:=dM (ao.out wz.drew g F.drew L.drew)
  clear F L q0 q1 q2
  go_wp2_with fail
  refine fh (S:=fun X=>X.cell? ⟨E,3,none⟩=some (.slice O n c)) (by kernel_rfl) q (fun ap=> ?_)
  refine mZ 0 ?_
  try simp only[k_]
  refine mZ 1 ?_
  try simp only[k_]
  refine mZ 2 ?_
  try simp only[k_]
  refine mZ 3 ?_
  try simp only[k_]
  refine mZ 4 ?_
  try simp only[k_]
  refine mZ 5 ?_
  try simp only[k_]
  refine pn 6 (fun K B=> ?_)
  go_simp
  go_at_call 69
  (with_reducible refine am.out.mono ?_)
  rintro e wy ⟨rfl,ad⟩
  have ah:=dM (show Below w.heap.size w wy from ad)
  refine B.out _ _ (aq.out _ ah.out) (fun au=> ?_)
  clear B K ad
  try simp only[k_]
  refine mZ 7 ?_
  try simp only[k_]
  refine gC (by kernel_rfl) ?_ _
  go_wp2
  go_ret
  exact⟨rfl,ah.out⟩
def nY:List Int→Nat→List Nat
 |[],_=>[]
 |c::r,i=>if c=46 then i::nY r (i+1)else nY r (i+1)
theorem MO: ∀(a b:List Int) (i:Nat),nY (a++b) i=nY a i++nY b (i+a.length)
 |[],b,i=>by simp[nY]
 |c::r,b,i=>by
  rw[ff,nY,nY,MO r b (i+1),eu,show i+1+r.length=i+(r.length+1)by omega]
  split<;>simp
theorem Ky: ∀(l:List Int) (i:Nat),(nY l i).length≤l.length
 |[],_=>dQ _
 |c::r,i=>by
  rw[nY]
  have:=Ky r (i+1)
  split
  ·simp;omega
  ·simp;omega
theorem KR: ∀(l:List Int) (i:Nat),nY l i=[]→46 ∉ l
 |[],_,_=>by simp
 |c::r,i,h=>by
  rw[nY]at h
  split at h
  ·cases h
  ·rename_i B
   intro q
   rcases eF.1 q with e|e
   ·exact B e.symm
   ·exact KR r (i+1) h e
theorem JQ: ∀(l:List Int) (i p:Nat) (t:List Nat),nY l i=p::t→ ∃a r,l=a++46::r∧46 ∉ a∧p=i+a.length∧nY r (i+a.length+1)=t
 |[],_,_,_,h=>by cases h
 |c::r,i,p,t,h=>by
  rw[nY]at h
  split at h
  ·rename_i q
   injection h with h1 G
   exact⟨[],r,by rw[q];rfl,by simp,by simp[h1],G⟩
  ·rename_i q
   obtain⟨a,B,e,F,I,E⟩:=JQ r (i+1) p t h
   refine⟨c::a,B,by rw[e];rfl,?_,by rw[eu];omega,by rw[eu,show i+(a.length+1)+1=i+1+a.length+1 by omega];exact E⟩
   intro D
   rcases eF.1 D with e|e
   ·exact q e.symm
   ·exact F e
theorem rq: ∀(t:List Nat) (l:List Int) (i:Nat),nY l i=t→(px l).length=t.length+1
 |[],l,i,h=>by rw[Im l (KR l i h)];rfl
 |p::t,l,i,h=>by
  obtain⟨a,r,rfl,B,_,q⟩:=JQ l i p t h
  rw[F6 a r B,eu,rq t r _ q,eu]
theorem Do {l:List Int} {p q:Nat} (h:nY l 0=[p,q]): ∃a b c,l=a++46::(b++46::c)∧px l=[a,b,c]∧p=a.length∧q=a.length+1+b.length:=by
 obtain⟨a,r,rfl,F,I,D⟩:=JQ l 0 p [q] h
 obtain⟨b,c,rfl,E,G,B⟩:=JQ r _ q [] D
 exact⟨a,b,c,rfl,by rw[F6 a _ F,F6 b c E,Im c (KR c _ B)],by omega,by omega⟩
theorem vA {l:List Int} (h:(nY l 0).length≠2):nD l=none:=by
 have e:=rq _ l 0 rfl
 unfold nD
 split
 ·rename_i a b c q
  rw[q]at e
  simp at e
  omega
 ·rfl
theorem Ar {l:List Int} {k:Nat} (h:k<l.length):nY (l.take (k+1)) 0=nY (l.take k) 0++(if l[k]=46 then[k]else[]):=by
 rw[eS h,MO,ep,fK (by omega),eL]
 congr 1
def zj (ps:List Nat):List Value:=ps.map fun(p:Nat)=> .int .i64 (p:Int)
theorem Bj (w:World) (v:Value) (t:TypeId): ∀j u,([v]:List Value)[j]? =some u→(w.alloc (.cells #[v] t)).cell? ((⟨w.heap.size,0,none⟩:Addr).add j)=some u:=fun j u h=>by
 rw[Addr.add_lit,j6]
 simpa using h
theorem C9:(prog.info? 3).map (fun i=>(i.zero,i.size,i.bytes))=some (some (.int .i64 0),1,8):=by kernel_rfl
theorem ue (s:ByteArray) (w:World) (hs:s.size≤1000000):
  Calls prog 39 #[.string s] w fun e w'=> ∃v,e= .returned v∧w'.ownsRow w.heap.size 3 1 v (nY (a_ s) 0).length (zj (nY (a_ s) 0))∧Below w.heap.size w w':=by
 obtain⟨iK,hK,af,ae,ad⟩:=gw C9
 have O:=dM (j_ s)
 go_enter func39,ntmps39
 go_wp2
 go_loopw[3,4] (fun v3 v4 wr=> ∃i:Nat,v4= .int .i64 (i:Int)∧i≤s.size∧wr.ownsRow w.heap.size 3 1 v3 (nY ((a_ s).take i) 0).length (zj (nY ((a_ s).take i) 0))∧Below w.heap.size w wr) (fun _ v4 _=>s.size-(intOf v4).toNat)
 case atStart=>exact⟨0,rfl,eN _,ft _ _ _ _,dU _ _⟩
 case round=>
  obtain⟨i,rfl,hi,E,Z⟩:=hrel
  have B:=dM Z
  by_cases W:i<s.size
  ·have L:i<(a_ s).length:=by rw[O.out];exact W
   have i0:(0:Int)≤(i:Int):=by omega
   have i1:(i:Int)<(s.size:Int):=by omega
   have Y:(a_ s)[i]=((s[i]'W).toNat:Int):=by
    have:=o_ s i W
    rw[←this,dR,dZ L];rfl
   have I:=Ar L
   have U:=Ky ((a_ s).take i) 0
   rw[ep,O.out,fK hi]at U
   rw[Y]at I
   have F:=dM I
   obtain⟨G,R⟩:=yaa (nY ((a_ s).take i) 0)
   rw[←R]at E F U
   have N:=dM E
   clear I Y R E Z L
   by_cases D:((s[i]'W).toNat:Int)=46
   ·have hb:(((s[i]'W).toNat:Int)==46)=true:=by rw[D];rfl
    have M:Hid (nY ((a_ s).take (i+1)) 0=G++[i]):=dM (by rw[F.out,dP D])
    clear D F
    go_wp2_with(at_builtin;refine wpList_append_lies _ rfl _ _ 69 rfl w.heap.size 3 iK (.int .i64 0) 1 8 underlying69 hK af ae ad rfl (by decide) _ _ _ rfl (N.out.alloc _) ⟨wr.heap.size,0,none⟩ 1 1 [.int .i64 (i:Int)] rfl rfl (Bj _ _ _) (by intro u Q;simp at Q;subst Q;rfl) (by omega) (by unfold maxLen;omega) (by omega) (B.out.alloc B.out.size _).size _ rfl ?_;intro g4 aj w4 V X ab aa;have ag:=dM V;have ah:=dM ((B.out.alloc B.out.size _).grown X (B.out.alloc B.out.size (.cells #[.int .i64 (i:Int)] 3)).size (fun q hq=>(N.out.lt q hq).1));clear V X ab aa;try go_frame)
    go_roundw
    case rel=>exact⟨i+1,by go_num,by omega,by rw[M.out,dS];unfold zj;rw[gl];exact ag.out,ah.out⟩
    case measure=>simp[intOf];omega
   ·have hb:(((s[i]'W).toNat:Int)==46)=false:=by rw[dY];exact D
    have M:Hid (nY ((a_ s).take (i+1)) 0=G):=dM (by rw[F.out,dN D,fM])
    clear D F
    go_wp2
    go_roundw
    case rel=>exact⟨i+1,by go_num,by omega,by rw[M.out];exact N.out,B.out⟩
    case measure=>simp[intOf];omega
  ·obtain rfl:i=s.size:=by omega
   have ai: ¬(s.size:Int)<(s.size:Int):=by omega
   rw[eo (iw O.out)]at E
   go_wp2
   go_ret
   exact⟨_,rfl,E,B.out⟩
theorem rh: ∀(k:List ByteArray) (l:List J) (nm:ByteArray) (x:J),om k l nm=some x→x∈l
 |[],_,_,_,h=>by simp[om]at h
 |_::_,[],_,_,h=>by simp[om]at h
 |n::r,y::t,nm,x,h=>by
  rw[om]at h
  split at h
  ·injection h with h;rw[h];exact List.mem_cons_self
  ·exact eE _ (rh r t nm x h)
theorem Gj {j x:J} {nm:ByteArray} (h:Rt j) (q:oD j nm=some x):Rt x:=by
 cases h with
 |mk kind n s l k a1 a2 a3 a4=>
  unfold oD at q
  split at q
  ·exact a4 x (rh _ _ _ _ q)
  ·cases q
theorem Ex {x:J} {t:ByteArray} (h:Rt x) (E:x.s=t) (F:t≠⟨#[]⟩):x=oY t:=by
 cases h with
 |mk kind n s l k a1 a2 a3 a4=>
  have E:s=t:=E
  subst E
  unfold BD at a1
  simp only[fb,jx,eb]at a1
  obtain⟨⟨⟨B,N⟩,q⟩,D⟩:=a1
  have M:kind=3:=N.resolve_right F
  subst M
  have I:n=0:=by rcases B with(B|B)|B<;>first|omega|exact B
  have L:l=[]:=ea (by rcases q with(q|q)|q<;>first|omega|exact q)
  have G:k=[]:=ea (by rcases D with D|D<;>first|omega|exact D)
  subst I;subst L;subst G
  rfl
theorem xa (a b:ByteArray):s9 (oY a) (oY b)=decide (a=b):=by
 unfold oY
 rw[s9,wh]
 cases h:decide (a=b)<;>simp
theorem Cd: ∀(x:J) (t:ByteArray),s9 x (oY t)=true→x.s=t
 | .mk kind n s l k,t,h=>by
  unfold oY at h
  rw[s9]at h
  simp only[fb,eb]at h
  exact h.1.1.2
theorem xf {j:J} {nm t:ByteArray} (h:Rt j) (q:t≠⟨#[]⟩):nk j nm t=decide (((oD j nm).getD zeroJ).s=t):=by
 unfold nk
 cases hg:oD j nm with
 |none=>
  show s9 zeroJ (oY t)=decide (zeroJ.s=t)
  have e:zeroJ.s=⟨#[]⟩:=rfl
  rw[e,dT (fun k=>q k.symm),←im]
  intro D
  exact q ((Cd _ _ D).symm.trans e)
 |some x=>
  show s9 x (oY t)=decide (x.s=t)
  by_cases B:x.s=t
  ·rw[Ex (Gj h hg) B q,xa]
   rfl
  ·rw[dT B,←im]
   exact fun D=>B (Cd _ _ D)
end Go.Proofs.YtceddodfddlncaaGreatDoor
