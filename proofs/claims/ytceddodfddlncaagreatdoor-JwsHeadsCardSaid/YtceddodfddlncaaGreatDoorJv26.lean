
import Derived.Test.YtceddodfddlncaaGreatDoorJv23
import Derived.Test.YtceddodfddlncaaGreatDoorJv25
set_option maxRecDepth 100000
set_option maxHeartbeats 16000000
set_option linter.all false
namespace Go.Proofs.YtceddodfddlncaaGreatDoor
open Go Go.RowKit Tryz
def Bw (ms:List (ByteArray×J)):Prop:=ms.length≤256∧(ms.map Prod.fst).Nodup∧ ∀m∈ms,Sm m.2
theorem Dg (l:List Int) (d:Nat): ∀(f i:Nat) (left:Int) (q:List (ByteArray×J)) (j:Nat) (E:Int) (B:List (ByteArray×J)),i≤l.length→0≤left→(q.length:Int)+left≤256→(q.map Prod.fst).Nodup→(∀m∈q,Sm m.2)→
  uZ l 125 (BB l d) f i left q= .inr (j,E,B)→Bw B
 |0,i,left,q,j,E,B,_,_,_,_,_,h=>by cases h
 |f+1,i,left,q,j,E,B,hi,h0,h1,hn,hs,h=>by
  rw[uZ]at h
  unfold BB at h
  cases hN:BA l i (q.map Prod.fst)with
  |inl e=>rw[hN]at h;cases h
  |inr tj=>
   obtain⟨t,k⟩:=tj
   rw[hN]at h
   dsimp only at h
   obtain⟨n1,V,n3,F⟩:=JP hN hi
   have aa:=oS (l:=l) (i:=k) V
   by_cases Q:f_ l (d_ l k)≠58
   ·rw[dP Q]at h;cases h
   ·rw[dN Q]at h
    have Z:=oq (l:=l) (i:=d_ l k) (by omega)
    have I:=oS (l:=l) (i:=d_ l k+1) Z
    have L:=BI l d (d_ l (d_ l k+1)) left I.2
    have M:=Ka l d (d_ l (d_ l k+1)) left
    have G:=qD l d (d_ l (d_ l k+1)) left h0 (by omega)
    obtain⟨r,X⟩:=yaa (nj l d (d_ l (d_ l k+1)) left)
    rw[←X]at h L M G
    by_cases N:r.2.2.2≠0
    ·rw[dP N]at h;cases h
    ·rw[dN N]at h
     obtain⟨m1,m2,W,m4⟩:=L (by omega)
     have m5:=M (by omega) I.2
     dsimp only at h
     have g1:(((q++[(t,r.1)]).length:Nat):Int)+r.2.2.1≤256:=by rw[dS,js];omega
     have U:((q++[(t,r.1)]).map Prod.fst).Nodup:=by
      rw[gl,List.nodup_append]
      refine⟨hn,by simp,fun a ha b hb=> ?_⟩
      obtain rfl:b=t:=by simpa using hb
      rintro rfl
      unfold nw at F
      rw[List.any_eq_false]at F
      exact F a ha (by simp)
     have g3: ∀m∈q++[(t,r.1)],Sm m.2:=fun m D=>by
      rcases fA.1 D with D|D
      ·exact hs m D
      ·rw[eh.1 D];exact G
     by_cases R:f_ l r.2.1=44
     ·rw[dP R]at h
      have Y:=oq (l:=l) (i:=r.2.1) (by omega)
      exact Dg l d f (r.2.1+1) r.2.2.1 (q++[(t,r.1)]) j E B Y W g1 U g3 h
     ·rw[dN R]at h
      by_cases O:f_ l r.2.1=125
      ·rw[dP O]at h
       injection h with h
       injection h with _ h
       injection h with _ h
       rw[←h]
       exact⟨by omega,U,g3⟩
      ·rw[dN O]at h;cases h
theorem uv (s:ByteArray) (q:Nat) (i:Nat) (left:Int) (w:World) (D:Rdr w q s i (256-left)):
  Calls prog 166 #[.pointer (some ⟨q,0,none⟩),.int .i64 9] w (ValPost w q s (zeroJ,i,left,51)):=by
 have B:=q7 w q s 9 i _ D
 have M:=dM (fun f=>L5 q s i _ 9 125 f _ B.rdr (by decide) (by decide))
 have L:=dM B.gr
 have O: ∀(F:Fn) (first G:Array Value) (w:World),(Instr.makeFunc F first G).run prog w= .ok (.func F first G) w:=fun _ _ _ _=>rfl
 clear D B
 go_enter func166,ntmps166
 go_wp2_with fail
 refine(M.out _).mono ?_
 rintro e N ⟨rfl,E⟩
 have I:=dM (L.out.trans E)
 clear E
 go_wp2
 exact⟨rfl,ValPost.bad rfl (by decide) ⟨rfl,I.out⟩⟩
theorem EK (s:ByteArray) (q d:Nat) (I:s.size≤10000) (O:d≤8) (G: ∀e,d=e+1→BL s q e) (F: ∀B,Bw B→DP B):yA s q d:=fun i left w hi h0 h1 E L M=>by
 cases d with
 |zero=>exact uv s q i left w E
 |succ d=>
  have:=xz s q d I (by omega) (G d rfl) i left w hi h0 h1 E L M (fun j N B h=>by
   split at h
   ·injection h with h
    injection h with _ h
    injection h with _ h
    rw[←h]
    exact F _ ⟨by simp,by simp,fun m D=>by cases D⟩
   ·exact F _ (Dg (a_ s) d _ _ _ _ _ _ _ (oS (by rw[j_];exact hi)).2 h0 (by simp;omega) (by simp) (fun m D=>by cases D) h))
  rw[show(9:Int)-((d+1:Nat):Int)=8-(d:Int)by omega]
  exact this
theorem Av (Q: ∀B,Bw B→DP B) (A:Option Addr) (xs:List Int) (n c:Nat) (W:World) (L:xs.length=n) (I:n≤9223372036854775807) (E:Bytes xs) (N:Lies W A xs) (M:Marks W) (G:ErrTab W):
  Calls prog 64 #[.slice A n c] W (KH W (nN xs)):=
 CB A xs n c W L I E N M G fun h q=>by
  have D:(toS xs).size≤10000:=by rw[qc];omega
  exact K5 (toS xs) q D (fun d O F=>EK (toS xs) q d D O F Q) 8 (dQ _)
theorem rj: ∀(zs:List MC) (k:Nat) (u:Value),(p_ zs)[k]? =some u→ ∃j i,j<zs.length∧k=j*6+i∧(og zs[j]!)[i]? =some u
 |[],k,u,h=>by cases h
 |z::r,k,u,h=>by
  replace h:(og z++p_ r)[k]? =some u:=h
  have q:(og z).length=6:=rfl
  by_cases D:k<6
  ·rw[fP (by omega)]at h
   exact⟨0,k,by simp,by omega,h⟩
  ·rw[ez (by omega),q]at h
   obtain⟨j,i,h1,E,B⟩:=rj r (k-6) u h
   exact⟨j+1,i,by simpa using h1,by omega,by rw[←B];congr 2⟩
theorem FlatM.one {W:World} {S:Nat→Prop}: ∀{D:List (ByteArray×J)} {zs:List MC},FlatM W S D zs→ ∀u∈p_ zs,u.oneCell'=true
 |[],zs,h,u,q=>by rw[FlatM]at h;subst h;cases q
 |m::r,zs,h,u,q=>by
  obtain⟨z,B,rfl,_,_,E,h⟩:=h
  obtain⟨N,A,c,e, -,⟨K,d,rfl, -, -⟩, -, -⟩:=E.open
  simp only[gX,ie,gM,jp]at e
  obtain⟨M,L,I,G,F⟩:=e
  replace q:u∈og z++p_ B:=q
  rcases fA.1 q with q|q
  ·unfold og at q
   rw[M,L,I,G,F]at q
   simp only[eF,fx,je]at q
   rcases q with rfl|rfl|rfl|rfl|rfl|rfl<;>rfl
  ·exact h.one u q
theorem vE (a:Addr) (c:Nat) (w:World):
  Calls prog 115 #[.slice (some a) 0 c] w fun e w'=> ∃q,e= .returned q∧w'.ownsRow w.heap.size 133 6 q 0 []∧Below w.heap.size w w':=by
 obtain⟨i0,hi,G,F,E⟩:=gw sr
 have R: ∀(w:World) (a:Option Addr) (n c B D:Nat),(binOp .eql 174 (.slice a n c) (.slice none B D)).run prog w= .ok (.bool a.isNone) w:=fun w a n c B D=>Lib.run_eql_slice_nil w _ _ a n c B D ib
 go_enter func115,ntmps115
 go_wp2_with(at_builtin;refine fm _ rfl _ _ 174 rfl w.heap.size 133 i0 (.agg #[.string ⟨#[]⟩,.int .i64 0,.int .i64 0,.string ⟨#[]⟩,.slice none 0 0,.slice none 0 0]) 6 96 ib hi G F E rfl (by decide) _ _ _ rfl (World.ownsRow_made w #[] 0 (dQ _) (eN _) rfl) a 0 c [] rfl rfl (by intro j u N;simp at N) (by intro u I;simp at I) (by unfold maxLen;omega) (by omega) (by simp) ?_)
 intro q Q L O U
 go_wp2
 go_ret
 exact⟨q,rfl,by simpa using L,((dU _ w).alloc (dQ _) _).grown O (by simp) (by intro k M;simp[Value.ownBlock]at M;omega)⟩
theorem yh (W:World) (S:Nat→Prop) (B:List (ByteArray×J)) (zs:List MC) (X:B.length≤1000000) (v:Value) (I:FlatM W S B zs) (Q:RowM W v zs):
  Calls prog 115 #[v] W fun e w'=> ∃q,e= .returned q∧w'.ownsRow W.heap.size 133 6 q B.length (p_ zs)∧Below W.heap.size W w':=by
 have E:=I.length
 rcases Q with⟨rfl,rfl⟩|⟨g,c,rfl,V,R⟩
 ·refine(show Calls prog 115 #[.slice none 0 0] W _ from AnyE.slices_Clone_nil Tryz.cloneM 0 0 W).mono ?_
  rintro e w' ⟨rfl,rfl⟩
  refine⟨_,rfl,?_,dU _ _⟩
  rw[←E]
  exact ft _ _ _ _
 ·by_cases G:zs=[]
  ·subst G
   refine(vE _ c W).mono ?_
   rintro e w' ⟨q,rfl,D,F⟩
   exact⟨q,rfl,by rw[←E];exact D,F⟩
  ·obtain⟨i0,hi,N,M,L⟩:=gw sr
   have:=AnyE.slices_Clone Tryz.cloneM i0 _ 6 96 hi N M L rfl (by decide) Tryz.sizeOf133 g 0 zs.length c (p_ zs) W (sD zs) (by unfold maxLen;omega) (by have:zs.length≠0:=fun h=>G (ea h);omega) (fun k u O=>by
    obtain⟨j,i,h1,Y,U⟩:=rj zs k u O
    rw[show 0+k=0+j*6+i by omega]
    exact R j h1 i u U) I.one
   refine(show Calls prog 115 #[.slice (some ⟨g,0,none⟩) zs.length c] W _ from this).mono ?_
   rintro e w' ⟨q,rfl,D,_,F⟩
   exact⟨q,rfl,by rw[←E];exact D,F⟩
end Go.Proofs.YtceddodfddlncaaGreatDoor
namespace Go.Proofs.YtceddodfddlncaaGreatDoor
open Go Go.RowKit Go.Sort Tryz
structure MT where
 nm:ByteArray
 kind:Int
 n:Int
 s:ByteArray
 A:Option Addr
 al:Nat
 ac:Nat
 K:Option Addr
 kl:Nat
 kc:Nat
instance:Inhabited MT:=⟨⟨⟨#[]⟩,0,0,⟨#[]⟩,none,0,0,none,0,0⟩⟩
def MT.mc (x:MT):MC:=⟨x.nm,.int .i64 x.kind,.int .i64 x.n,.string x.s,.slice x.A x.al x.ac,.slice x.K x.kl x.kc⟩
def ni (x:MT):List Value:=og x.mc
theorem Ko (x:MT): ∀v∈ni x,v.oneCell'=true:=fun v q=>by
 unfold ni og MT.mc at q
 simp only[eF,fx,je]at q
 rcases q with rfl|rfl|rfl|rfl|rfl|rfl<;>rfl
theorem FlatM.forms {W:World} {S:Nat→Prop}: ∀{B:List (ByteArray×J)} {zs:List MC},FlatM W S B zs→ ∃q:List MT,zs=q.map MT.mc
 |[],zs,h=>⟨[],h⟩
 |m::r,zs,h=>by
  obtain⟨z,M,rfl,_,_,D,h⟩:=h
  obtain⟨N,A,c,e, -,⟨K,d,rfl, -, -⟩, -, -⟩:=D.open
  simp only[gX,ie,gM,jp]at e
  obtain⟨L,I,G,F,E⟩:=e
  obtain⟨q,rfl⟩:=h.forms
  obtain⟨nm,a0,a1,a2,a3,a4⟩:=z
  subst L;subst I;subst G;subst F;subst E
  exact⟨⟨nm,_,_,_,A,_,c,K,_,d⟩::q,rfl⟩
theorem Bt (w:World) (a b:Obj): ∃q B,(w.alloc a).alloc b=Sort.grow (w.drewN q) B:=⟨0,#[a,b],by
 unfold Sort.grow World.alloc World.drewN
 simp only[World.mk.injEq,true_and,jp,kQ]
 apply Array.ext'
 simp⟩
def n_ (x y:MT):Int:=Lib.compareBytes x.nm.data.toList y.nm.data.toList
theorem Ff (x y:MT) (W:World):
  Calls prog 117 #[.agg (ni x).toArray,.agg (ni y).toArray] W fun e w'=>e= .returned (.int .i64 (n_ x y))∧ ∃q D,w'=Sort.grow (W.drewN q) D:=by
 show Calls prog 117 #[.agg #[.string x.nm,.int .i64 x.kind,.int .i64 x.n,.string x.s,.slice x.A x.al x.ac,.slice x.K x.kl x.kc],.agg #[.string y.nm,.int .i64 y.kind,.int .i64 y.n,.string y.s,.slice y.A y.al y.ac,.slice y.K y.kl y.kc]] W _
 unfold n_
 have HC:=dM (fun(w:World)=>Tryz.strings_Compare x.nm y.nm w)
 obtain⟨c,B⟩:=yaa (Lib.compareBytes x.nm.data.toList y.nm.data.toList)
 rw[←B]at HC⊢
 clear B
 go_enter func117,ntmps117
 go_wp2_with(go_at_call 118;(with_reducible refine(HC.out _).mono ?_);rintro e w' ⟨rfl,rfl⟩)
 go_ret
 exact⟨rfl,Bt _ _ _⟩
theorem vD (blk q size:Nat) (w:World):CmpLays prog 117 #[] ni 6 n_ blk q size w:=fun m B D _ x y=>Ff x y _
theorem L1: ∀args w,(callFunc 117 args).run prog w= .ok (.enter 117 args) w:=gJ func117 (by kernel_rfl) rfl
theorem xT (blk q a b:Nat) (d:Array MT) (w:World) (I:HoldsK ni 6 w blk 0 d) (E:blk<w.heap.size) (G:a≤b) (F:b≤d.size) (D:d.size<4611686018427387904):
  Calls prog 175 #[.slice (some ⟨blk,0,none⟩) d.size q,.int .i64 a,.int .i64 b,.func (.func 117) #[] #[]] w fun e w'=>
   e= .returned (.tuple #[])∧ ∃n B,w'=sortWorldK ni 6 w blk 0 n (Sort.insertionSort (ltOf n_) d a b) B:=
 AnyQ.insertionSortCmpFunc Tryz.insertM 6 Tryz.isAgg133 Tryz.sizeOf133 ni (fun _=>rfl) Ko n_ 117 #[] blk 0 q a b d w L1 (vD _ _ _ _) I E G F D
end Go.Proofs.YtceddodfddlncaaGreatDoor
