
import Derived.Sort.LotA
import Derived.Shelf.SlicesQ.Reverse
import Derived.Shelf.SlSortFuncK.ComposeK
import Derived.Test.YtceddodfddlncaaGreatDoorJv27
set_option maxRecDepth 100000
set_option maxHeartbeats 16000000
set_option linter.all false
namespace Go.Proofs.YtceddodfddlncaaGreatDoor
open Go Go.RowKit Go.Sort Tryz
def gH:=@run_loadCellsFrom_list
def ip:=@holdsK_sortWorldK_c
def jg:=@HoldsK.cells
def j1:=@stores_of_holds
def kj:=@Calls.grown_of
def kz:=@List.pairwise_iff_getElem
def kT:=@getElem!_pos
def lg:=@Nat.min_eq_right
def lY:=@sortWorldK_grown_c
def mq:=@sortWorldK_swp_c
def mv:=@holds_setCells_c
theorem Cn {d:Array MT} {r:List (ByteArray×J)} (B:r.map Prod.fst=d.toList.map MT.nm) (I:(r.map Prod.fst).Nodup) (G:SortedIn (ltOf n_) 0 d.size d):Rises r:=by
 unfold Rises
 have L:r.length=d.size:=by have:=eH List.length B;simpa using this
 have e: ∀k (E:k<r.length),r[k].1=(d[k]!).nm:=fun k E=>by
  have h1:(r.map Prod.fst)[k]? =(d.toList.map MT.nm)[k]? :=by rw[B]
  rw[ka,ka,dZ E,dZ (by rw[Array.length_toList];omega)]at h1
  simp only[Option.map_some,Option.some.injEq]at h1
  rw[h1,kT d k (by omega)]
  rfl
 rw[kz]
 intro i j hi q F
 have h1:=G i j (eN _) F (by omega)
 rw[AF]at h1
 have D:=kz.1 I i j (by simpa using hi) (by simpa using q) F
 rw[List.getElem_map,List.getElem_map,e i hi,e j q]at D
 rw[e i hi,e j q]
 exact L_ (fun h=>D h.symm) h1
def Hy (n:Nat):Prop:= ∀(d:Array MT) (blk cap:Nat) (w:World),d.size=n→HoldsK ni 6 w blk 0 d→blk<w.heap.size→
 Calls prog 151 #[.slice (some ⟨blk,0,none⟩) n cap,.int .i64 n,.func (.func 117) #[] #[]] w fun e w'=>
  e= .returned (.tuple #[])∧ ∃m os d',w'=sortWorldK ni 6 w blk 0 m d' os∧PermIn 0 n d d'∧SortedIn (ltOf n_) 0 n d'
theorem NV (n:Nat) (E:Hy n) (d:Array MT) (blk F:Nat) (w:World) (L:d.size=n) (D:HoldsK ni 6 w blk 0 d) (M:blk<w.heap.size):
  Calls prog 116 #[.slice (some ⟨blk,0,none⟩) n F,.func (.func 117) #[] #[]] w fun e w'=>
   e= .returned (.tuple #[])∧ ∃m B q,w'=sortWorldK ni 6 w blk 0 m q B∧PermIn 0 n d q∧SortedIn (ltOf n_) 0 n q:=by
 have N:=dM (E d blk F w L D M)
 clear D E
 go_enter func116,ntmps116
 go_wp2_with(go_at_call 151;refine N.out.mono ?_;rintro e O ⟨rfl,m,B,q,rfl,I,G⟩)
 go_end0
 exact⟨rfl,m,B,q,rfl,I,G⟩
theorem sx {w:World} {base g G n:Nat} {q:List MT} (h:w.ownsRow base 133 6 (.slice (some ⟨g,0,none⟩) n G) n (p_ (q.map MT.mc))):HoldsK ni 6 w g 0 q.toArray:=fun j B=>by
 rw[size_flatK]at B
 have B:j<q.length*6:=by simpa using B
 have D:j/6<q.length:=by omega
 refine⟨?_,F8 h _⟩
 have E:(og (q.map MT.mc)[j/6]!)[j%6]? =some (ni q.toArray[j/6]!)[j%6]! :=by
  have F:(q.map MT.mc)[j/6]! =(q.toArray[j/6]!).mc:=by
   rw[kT (q.map MT.mc) (j/6) (by simpa using D),kT q.toArray (j/6) (by simpa using D)]
   simp
  rw[F]
  have I:(og (q.toArray[j/6]!).mc).length=6:=rfl
  rw[dZ (by omega)]
  show some _=some (og (q.toArray[j/6]!).mc)[j%6]!
  rw[kT _ (j%6) (by omega)]
 have:=h.cells rfl _ _ (Ks (q.map MT.mc) (j/6) (by simpa using D) (j%6) _ E)
 rw[eW,show 0+(j/6*6+j%6)=0+j by omega]at this
 rw[this,get_flatK _ _ _ _ (by simpa using B)]
 rfl
theorem Oi (w:World) (g m:Nat) (d:Array MT) (B:Array Obj):w.grownBy (sortWorldK ni 6 w g 0 m d B) (some g):=by
 refine⟨rfl,rfl,rfl,size_sortWorldK_c ni 6 w g 0 m d B,fun b D q=> ?_⟩
 have q:g≠b:=fun e=>q (by rw[e])
 unfold sortWorldK
 rw[heap_grow_old _ _ (by rw[size_putRowK];exact D)]
 unfold putRowK putRow mapBlock
 simp[Array.getElem?_modify,q,Sort.ahead]
theorem uj {n:Nat} {d q:Array MT} (D:d.size=n) (h:PermIn 0 n d q):q.toList.Perm d.toList:=by
 have B:=h.2.2
 have h1:=h.1
 rw[←D]at B
 rwa [show q.extract 0 d.size=q by rw[←h1];simp,show d.extract 0 d.size=d by simp]at B
theorem rS {w:World} {g E n:Nat} {d:Array MT} (I:HoldsK ni 6 w g 0 d) (G:g<w.heap.size) (F:d.size=n):RowM w (.slice (some ⟨g,0,none⟩) n E) (d.toList.map MT.mc):=by
 refine .inr ⟨g,E,by simp[F],G,fun j D i u q=> ?_⟩
 have B:j<d.size:=by simpa using D
 have L:(d.toList.map MT.mc)[j]! =(d[j]!).mc:=by
  rw[kT (d.toList.map MT.mc) j D,kT d j B];simp
 rw[L]at q
 have:=jg I (fun _=>rfl) B i u q
 rwa [Addr.add_lit]at this
theorem wR (W B:World) (S:Nat→Prop) (hS: ∀b,S b→b<W.heap.size) (q:List (ByteArray×J)) (zs:List MC) (g F:Nat) (X:B.ownsRow W.heap.size 133 6 (.slice (some ⟨g,0,none⟩) q.length F) q.length (p_ zs))
  (O:FlatM B S q zs) (hb:Below W.heap.size W B) (hn:(q.map Prod.fst).Nodup) (hA:Hy q.length):
  Calls prog 116 #[.slice (some ⟨g,0,none⟩) q.length F,.func (.func 117) #[] #[]] B fun e E=>
   e= .returned (.tuple #[])∧ ∃r Q,r.Perm q∧Rises r∧FlatM E S r Q∧RowM E (.slice (some ⟨g,0,none⟩) q.length F) Q∧Below W.heap.size W E:=by
 obtain⟨G,rfl⟩:=O.forms
 have L:G.length=q.length:=by have:=O.length;simpa using this
 have hH:=sx X
 have N:=X.lt g rfl
 refine(NV q.length hA G.toArray g F B (by simpa using L) hH N.2).mono ?_
 rintro e E ⟨rfl,m,R,D,rfl,I,hs⟩
 have Z:D.size=q.length:=by rw[I.1];simpa using L
 have aa:=uj (by simpa using L) I
 have ab:=ip ni 6 B g 0 G.toArray D m R hH N.2 I.1
 have M:=Oi B g m D R
 obtain⟨r,V,U⟩:=FlatM.perm ((aa.map MT.mc).symm) q O
 refine⟨rfl,r,D.toList.map MT.mc,V,?_,U.keeps (Keeps.grown M (fun b h e=> ?_)) (fun b h _=>h),rS ab (dX N.2 M.size) Z,hb.grown M hb.size (fun k Y=>by injection Y with Y;omega)⟩
 ·refine Cn (d:=D) ?_ ((V.map Prod.fst).nodup_iff.2 hn) (by rw[Z];exact hs)
  rw[←U.names,jV];rfl
 ·injection e with e;have:=hS b h;omega
theorem xS (w:World):Calls prog 175 #[.slice none 0 0,.int .i64 0,.int .i64 0,.func (.func 117) #[] #[]] w fun e w'=>e= .returned (.tuple #[])∧w=w':=by
 go_enter func175,ntmps175
 go_wp2
 refine jI 1 ?_
 rw[ke]
 go_wp2
 go_end0
 exact⟨rfl,rfl⟩
theorem wL (w:World):Calls prog 151 #[.slice none 0 0,.int .i64 0,.func (.func 117) #[] #[]] w fun e w'=>e= .returned (.tuple #[])∧w=w':=by
 have q:=dM xS
 go_enter func151,ntmps151
 go_wp2
 refine jI 1 ?_
 rw[ke]
 go_wp2_with(go_at_call 175;refine(q.out _).mono ?_;rintro e B ⟨rfl,rfl⟩)
 refine jI 1 ?_
 rw[ke]
 go_wp2
 go_end0
 exact⟨rfl,rfl⟩
theorem wT (w:World):Calls prog 116 #[.slice none 0 0,.func (.func 117) #[] #[]] w fun e w'=>e= .returned (.tuple #[])∧w=w':=by
 have q:=dM wL
 go_enter func116,ntmps116
 go_wp2_with(go_at_call 151;refine(q.out _).mono ?_;rintro e B ⟨rfl,rfl⟩)
 go_end0
 exact⟨rfl,rfl⟩
theorem wU (W B:World) (S:Nat→Prop) (M: ∀b,S b→b<W.heap.size) (q:List (ByteArray×J)) (zs:List MC) (v:Value) (E:B.ownsRow W.heap.size 133 6 v q.length (p_ zs))
  (F:FlatM B S q zs) (I:Below W.heap.size W B) (L:(q.map Prod.fst).Nodup) (N:Hy q.length):
  Calls prog 116 #[v,.func (.func 117) #[] #[]] B fun e D=>
   e= .returned (.tuple #[])∧ ∃r G,r.Perm q∧Rises r∧FlatM D S r G∧RowM D v G∧Below W.heap.size W D:=by
 rcases Ax E with rfl|⟨g,O,rfl⟩
 ·have h0:q=[]:=by
   rcases E.2 with⟨_,h⟩|⟨_,_,_,h,_⟩
   ·exact ea h
   ·simp at h
  subst h0
  have hz:zs=[]:=F
  subst hz
  refine(wT B).mono ?_
  rintro e D ⟨rfl,rfl⟩
  exact⟨rfl,[],[],kV _,by unfold Rises;simp,F,.inl ⟨rfl,rfl⟩,I⟩
 ·exact wR W B S M q zs g O E F I L N
end Go.Proofs.YtceddodfddlncaaGreatDoor
namespace Go.Proofs.YtceddodfddlncaaGreatDoor
open Go Go.RowKit Tryz
theorem C8:(prog.info? 9).map (fun i=>(i.zero,i.size,i.bytes))=some (some (.string ByteArray.empty),1,16):=by kernel_rfl
structure BInv (W wr:World) (r:List (ByteArray×J)) (k j:Nat) (vL vK:Value) (xs:List Value):Prop where
 c4:Blk wr W.heap.size 63 [.int .i64 5,.int .i64 0,.string ⟨#[]⟩,vL,vK]
 oK:wr.ownsRow (W.heap.size+1) 9 1 vK k (((r.take k).map Prod.fst).map Value.string)
 oL:wr.ownsRow (W.heap.size+1) 63 5 vL j xs
 fl:FlatJ wr (fun b=>W.heap.size+1≤b∧vL.ownBlock≠some b∧vK.ownBlock≠some b) ((r.take j).map Prod.snd) xs
 kl: ∀g,vL.ownBlock=some g→vK.ownBlock≠some g
 bel:Below W.heap.size W wr
 sz:W.heap.size+1≤wr.heap.size
variable {W wr w4 w5:World} {r:List (ByteArray×J)} {k j:Nat} {vL vK:Value} {xs:List Value}
theorem BInv.moved (h:BInv W wr r k j vL vK xs) (q:wr.grownBy w4 none):BInv W w4 r k j vL vK xs:=
 ⟨h.c4.grown q (by simp),h.oK.kept q (kn _),h.oL.kept q (kn _),h.fl.keeps (Keeps.grown q (fun b _ e=>by cases e)) (fun b h _=>h),h.kl,h.bel.grown q h.bel.size (fun k B=>by cases B),dV h.sz q.size⟩
theorem BInv.name {t:ByteArray} {g E:Nat} (h:BInv W wr r k j vL vK xs) (O:k<r.length) (N:r[k].1=t) (B:wr.grownBy w5 vK.ownBlock)
  (L:w5.ownsRow (W.heap.size+1) 9 1 (.slice (some ⟨g,0,none⟩) (k+1) E) (k+1) (((r.take k).map Prod.fst).map Value.string++[.string t])) (M:vK.ownBlock=some g∨wr.heap.size≤g):
  BInv W (w5.setCell ⟨W.heap.size,4,none⟩ (.slice (some ⟨g,0,none⟩) (k+1) E)) r (k+1) j vL (.slice (some ⟨g,0,none⟩) (k+1) E) xs:=by
 have D:=ou w5 W.heap.size 4 (.slice (some ⟨g,0,none⟩) (k+1) E)
 have R:W.heap.size+1≤g:=(L.lt g rfl).1
 have I:=fun b q=>(h.oK.lt b q).1
 have G:=fun b q=>h.oL.lt b q
 have Q: ∀b,vL.ownBlock=some b→g≠b:=fun b q e=>by
  rcases M with h'|h'
  ·exact h.kl b q (by rw[h',e])
  ·have:=(G b q).2;omega
 refine⟨?_,?_,?_,?_,?_,?_,dV h.sz (dV B.size D.size)⟩
 ·have:Blk w5 W.heap.size 63 [.int .i64 5,.int .i64 0,.string ⟨#[]⟩,vL,vK]:=h.c4.grown B (fun e=>by have:=I _ e.symm;omega)
  exact this.setCell 4 _
 ·rw[show(r.take (k+1)).map Prod.fst=(r.take k).map Prod.fst++[t]by rw[eS O,gl,lU,N],gl]
  exact L.kept D (.inr (by simp[Value.ownBlock];omega))
 ·refine(h.oL.kept B ?_).kept D ?_
  ·cases hv:vL.ownBlock with
   |none=>exact .inl rfl
   |some b=>exact .inr (fun e=>h.kl b hv e.symm)
  ·cases hv:vL.ownBlock with
   |none=>exact .inl rfl
   |some b=>exact .inr (fun e=>by injection e with e;have:=(G b hv).1;omega)
 ·refine h.fl.keeps ⟨dV B.size D.size,fun b h1 F=> ?_⟩ (fun b h1 F=>⟨h1.1,h1.2.1,fun e=> ?_⟩)
  ·rw[D.block b (dX F B.size) (by intro e;injection e with e;have:=h1.1;omega)]
   exact B.block b F (fun e=>h1.2.2 e.symm)
  ·have e:g=b:=by simpa[Value.ownBlock]using e
   rcases M with h'|h'
   ·exact h1.2.2 (by rw[h',e])
   ·omega
 ·intro b q e
  have e:g=b:=by simpa[Value.ownBlock]using e
  exact Q b q e
 ·refine(h.bel.grown B h.bel.size (fun b q=> ?_)).grown D (dV h.bel.size B.size) (fun b q=> ?_)
  ·have:=I b q;omega
  ·injection q with q;omega
theorem BInv.value {x:J} {c0 c1 c2 c3 c4:Value} {g E:Nat} (h:BInv W wr r k j vL vK xs) (Z:wr.grownBy w4 none) (X:j<r.length) (U:r[j].2=x) (V:RepS w4 (fun b=>wr.heap.size≤b) x (.agg #[c0,c1,c2,c3,c4])) (D:w4.grownBy w5 vL.ownBlock)
  (Q:w5.ownsRow (W.heap.size+1) 63 5 (.slice (some ⟨g,0,none⟩) (j+1) E) (j+1) (xs++[c0,c1,c2,c3,c4])) (L:vL.ownBlock=some g∨w4.heap.size≤g):
  BInv W (w5.setCell ⟨W.heap.size,3,none⟩ (.slice (some ⟨g,0,none⟩) (j+1) E)) r k (j+1) (.slice (some ⟨g,0,none⟩) (j+1) E) vK (xs++[c0,c1,c2,c3,c4]):=by
 have B:=h.moved Z
 have G:=ou w5 W.heap.size 3 (.slice (some ⟨g,0,none⟩) (j+1) E)
 have aa:W.heap.size+1≤g:=(Q.lt g rfl).1
 have M:=fun b q=>(B.oL.lt b q).1
 have N:=fun b q=>B.oK.lt b q
 have hs:=h.sz
 have Y: ∀b,vK.ownBlock=some b→g≠b:=fun b q e=>by
  rcases L with h'|h'
  ·exact h.kl b (by rw[h',e]) q
  ·have:=(N b q).2;omega
 have I:w4.heap.size≤(w5.setCell ⟨W.heap.size,3,none⟩ (.slice (some ⟨g,0,none⟩) (j+1) E)).heap.size:=dV D.size G.size
 have O: ∀b,b<w4.heap.size→W.heap.size+1≤b→vL.ownBlock≠some b→(w5.setCell ⟨W.heap.size,3,none⟩ (.slice (some ⟨g,0,none⟩) (j+1) E)).heap[b]? =w4.heap[b]? :=fun b R h1 h2=>by
  rw[G.block b (dX R D.size) (by intro e;injection e with e;omega)]
  exact D.block b R (fun e=>h2 e.symm)
 refine⟨?_,?_,?_,?_,?_,?_,dV B.sz I⟩
 ·have:Blk w5 W.heap.size 63 [.int .i64 5,.int .i64 0,.string ⟨#[]⟩,vL,vK]:=B.c4.grown D (fun e=>by have:=M _ e.symm;omega)
  exact this.setCell 3 _
 ·refine(B.oK.kept D ?_).kept G ?_
  ·cases hv:vK.ownBlock with
   |none=>exact .inl rfl
   |some b=>exact .inr (fun e=>h.kl b e.symm hv)
  ·cases hv:vK.ownBlock with
   |none=>exact .inl rfl
   |some b=>exact .inr (fun e=>by injection e with e;have:=(N b hv).1;omega)
 ·exact Q.kept G (.inr (by simp[Value.ownBlock];omega))
 ·rw[show(r.take (j+1)).map Prod.snd=(r.take j).map Prod.snd++[x]by rw[eS X,gl,lU,U]]
  refine FlatJ.snoc ?_ ?_
  ·refine RepS.keeps (S:=fun b=>wr.heap.size≤b) ⟨I,fun b h1 F=> ?_⟩ (fun b h1 F=> ?_) _ _ V
   ·replace h1:wr.heap.size≤b:=h1
    exact O b F (by omega) (fun e=>by have:=(h.oL.lt b e).2;omega)
   ·replace h1:wr.heap.size≤b:=h1
    refine⟨by omega,fun e=> ?_,fun e=>by have:=(h.oK.lt b e).2;omega⟩
    have e:g=b:=by simpa[Value.ownBlock]using e
    rcases L with h'|h'
    ·have:=(h.oL.lt g h').2;omega
    ·omega
  ·refine B.fl.keeps ⟨I,fun b h1 F=> ?_⟩ (fun b h1 F=> ?_)
   ·exact O b F h1.1 h1.2.1
   ·refine⟨h1.1,fun e=> ?_,h1.2.2⟩
    have e:g=b:=by simpa[Value.ownBlock]using e
    rcases L with h'|h'
    ·exact h1.2.1 (by rw[h',e])
    ·omega
 ·intro b q e
  have q:g=b:=by simpa[Value.ownBlock]using q
  exact Y b e q
 ·refine(B.bel.grown D B.bel.size (fun b q=> ?_)).grown G (dV B.bel.size D.size) (fun b q=> ?_)
  ·have:=M b q;omega
  ·injection q with q;omega
theorem BInv.done {W0:World} (h:BInv W wr r r.length r.length vL vK xs) (h0:W0.heap.size≤W.heap.size) (I:r.length≤1000) (E: ∀m∈r,m.1.size≤9223372036854775807):
  RepS wr (fun b=>W0.heap.size≤b) (.mk 5 0 ⟨#[]⟩ (r.map Prod.snd) (r.map Prod.fst)) (.agg #[.int .i64 5,.int .i64 0,.string ⟨#[]⟩,vL,vK]):=by
 have B:=h.oK
 have G:=h.oL
 have hF:=h.fl
 rw[g9]at B hF
 refine RepS.of_rows (base:=W.heap.size+1) (l:=r.map Prod.snd) (k:=r.map Prod.fst) (by rw[iy];exact G) hF (by rw[iy];exact B) (fun b q _=>show W0.heap.size≤b by have:=q.1;omega) (fun b q=>show W0.heap.size≤b by omega) (by decide) (by rw[iy];omega) (by rw[iy];omega) (fun t D=> ?_)
 obtain⟨m,F,rfl⟩:=jN.1 D
 exact E m F
theorem FlatM.at {W:World} {S:Nat→Prop}: ∀{q:List (ByteArray×J)} {zs:List MC},FlatM W S q zs→ ∀j (B:j<q.length),zs[j]!.nm=q[j].1∧q[j].1.size≤9223372036854775807∧RepS W S q[j].2 (.agg #[zs[j]!.a0,zs[j]!.a1,zs[j]!.a2,zs[j]!.a3,zs[j]!.a4])
 |m::r,zs,h,0,_=>by obtain⟨z,D,rfl,h1,F,E,_⟩:=h;exact⟨h1,F,E⟩
 |m::r,zs,h,j+1,B=>by
  obtain⟨z,D,rfl,_,_,_,h⟩:=h
  have:=h.at j (by simpa using B)
  exact this
theorem RowM.grownN {w q:World} {v:Value} {zs:List MC} (h:RowM w v zs) (D:w.grownBy q none):RowM q v zs:=by
 rcases h with h|⟨g,c,e,B,G⟩
 ·exact .inl h
 ·exact .inr ⟨g,c,e,dX B D.size,fun j F i u E=>(jC (D.block g B (by simp))).trans (G j F i u E)⟩
theorem RowM.form {w:World} {v:Value} {zs:List MC} (h:RowM w v zs): ∃A c,v= .slice A zs.length c∧ ∀j,j<zs.length→ ∃g,A=some ⟨g,0,none⟩∧g<w.heap.size∧ ∀i u,(og zs[j]!)[i]? =some u→w.cell? ⟨g,j*6+i,none⟩=some u:=by
 rcases h with⟨rfl,rfl⟩|⟨g,c,rfl,D,E⟩
 ·exact⟨none,0,rfl,fun j q=>by simp at q⟩
 ·exact⟨_,c,rfl,fun j q=>⟨g,rfl,D,fun i u B=>by have:=E j q i u B;rwa [eL]at this⟩⟩
theorem BInv.start (W:World) (r:List (ByteArray×J)):
  BInv W (W.alloc (.cells #[.int .i64 5,.int .i64 0,.string ⟨#[]⟩,.slice none 0 0,.slice none 0 0] 63)) r 0 0 (.slice none 0 0) (.slice none 0 0) []:=by
 refine⟨qb W rfl [.int .i64 5,.int .i64 0,.string ⟨#[]⟩,.slice none 0 0,.slice none 0 0] _,ft _ _ _ _,ft _ _ _ _,rfl,fun g h=>by simp[Value.ownBlock]at h,?_,by simp⟩
 exact(dU W.heap.size W).alloc (dQ _) _
theorem qW {w:World} {base n size:Nat} {e:TypeId} {v:Value} {xs:List Value} (h:w.ownsRow base e size v n xs): ∃A c,v= .slice A n c:=by
 rcases h.2 with⟨h,h0⟩|⟨g,q,B,h,_⟩
 ·exact⟨none,0,by rw[h0];exact h⟩
 ·exact⟨_,q,h⟩
theorem Rises.ne {r:List (ByteArray×J)} (h:Rises r) (k:Nat) (q:k+1<r.length):r[k+1].1≠r[k].1:=fun e=>by
 have:=(kz.1 h) k (k+1) (by omega) q (by omega)
 rw[e,JO]at this
 cases this
theorem Gw (ms:List (ByteArray×J)) (bL:Bw ms) (hA:Hy ms.length):DP ms:=fun w vM zs S hS hf hr=>by
 obtain⟨hl,aJ,bc⟩:=bL
 obtain⟨Q,ah⟩: ∃W,W=w.alloc (.cells zeros5.toArray 63):=⟨_,rfl⟩
 have g1:w.grownBy Q none:=by rw[ah];exact dO _ _ none
 have b1:Blk Q w.heap.size 63 zeros5:=by rw[ah];exact qb w rfl zeros5 _
 have z1:Q.heap.size=w.heap.size+1:=by rw[ah];simp
 have aO:=hf.keeps (Keeps.grown g1 (fun b _ e=>by cases e)) (fun b h _=>h)
 have aS: ∀b,S b→b<Q.heap.size:=fun b h=>by have:=hS b h;omega
 have HC:=dM (yh Q S ms zs (by omega) vM aO (hr.grownN g1))
 have b7:=dM (fun w1 v ao hf hb=>wU Q w1 S aS ms zs v ao hf hb aJ hA)
 have cg:=dM aO
 have bz:=dM ah
 have cl:=dM b1
 have ai:=dM z1
 have cu:=dM g1
 have cb:=dM (fun(r:List (ByteArray×J)) (hp:r.Perm ms) (hr:Rises r)=>NL aJ hp hr)
 have b8:=dM bc
 have HL:=dM hl
 have HS:=dM aS
 obtain⟨iJ,hJ,bY,bX,bW⟩:=gw ss
 obtain⟨iS,hT,bV,bU,bT⟩:=gw C8
 clear g1 b1 z1 aO aS hS hf hr hl aJ bc hA ah
 go_enter func85,ntmps85
 go_wp2_with fail
 rw[show(w.alloc (.cells #[.int .i64 0,.int .i64 0,.string ⟨#[]⟩,.slice none 0 0,.slice none 0 0] 63))=Q from bz.out.symm]
 refine HC.out.mono ?_
 rintro e w2 ⟨v2,rfl,ao,aR⟩
 have b9:=dM (b7.out w2 v2 ao (cg.out.keeps (Keeps.below aR (fun b h _=>HS.out b h)) (fun b h _=>h)) aR)
 clear ao aR
 go_wp2_with fail
 refine b9.out.mono ?_
 rintro e B ⟨rfl,r,V,hp,bf,aN,bg,bq⟩
 obtain⟨A,c,rfl,aP⟩:=bg.form
 have aF:r.length=V.length:=aN.length.symm
 have bN:V.length≤256:=by have:=HL.out;have:=hp.length_eq;omega
 obtain⟨n,hn⟩:=yaa V.length
 rw[←hn]at aP aF bN⊢
 have bD:=dM aP
 have aj:=dM aF
 have aV:=dM aN
 have ax:=dM bq
 have HP:=dM hp
 have bA:=dM bf
 clear hp bf aN bg bq aP aF hn
 go_wp2_with fail
 go_loopw[14] (fun jv wr=> ∃k:Nat,k≤n∧jv= .int .i64 (k:Int)∧ ∃Y vK xs,BInv B wr r k k Y vK xs) (fun jv _=>n-(intOf jv).toNat)
 case atStart=>exact⟨0,eN _,rfl,_,_,_,BInv.start B r⟩
 case round=>
  obtain⟨k,hk,rfl,Y,vK,xs,E⟩:=hrel
  by_cases bl:k<n
  ·have aK:k<r.length:=by rw[aj.out];exact bl
   obtain⟨g,rfl,ar,hc⟩:=bD.out k bl
   obtain⟨aI,ag,hx⟩:=aV.out.at k aK
   obtain⟨vk,U,c2,e, -,⟨R,O,ek, -⟩, -⟩:=hx.open
   simp only[gX,ie,gM,jp]at e
   obtain⟨M,aD⟩: ∃a,a=r[k].2.kind:=⟨_,rfl⟩
   obtain⟨L,aC⟩: ∃a,a=r[k].2.n:=⟨_,rfl⟩
   obtain⟨I,aB⟩: ∃a,a=r[k].2.s:=⟨_,rfl⟩
   obtain⟨G,aA⟩: ∃a,a=r[k].2.l.length:=⟨_,rfl⟩
   obtain⟨F,az⟩: ∃a,a=r[k].2.k.length:=⟨_,rfl⟩
   rw[←aD,←aC,←aB,←aA]at e
   rw[←az]at ek
   obtain⟨e0,e1,e2,e3,e4⟩:=e
   rw[ek]at e4
   obtain⟨t,ht⟩:=yaa (r[k].1)
   rw[←ht]at aI ag
   have ab: ∀(a:Nat) (u:Value),(og V[k]!)[a]? =some u→wr.cell? ⟨g,k*6+a,none⟩=some u:=fun a u hu=>(E.bel.cell (p:=⟨g,k*6+a,none⟩) ar).trans (hc a u hu)
   have q0:wr.cell? ⟨g,k*6,none⟩=some (.string t):=ab 0 _ (by show some (Value.string V[k]!.nm)=_;rw[aI])
   have q1:wr.cell? ⟨g,k*6+1,none⟩=some (.int .i64 M):=ab 1 _ (by show some V[k]!.a0=_;rw[e0])
   have q2:wr.cell? ⟨g,k*6+2,none⟩=some (.int .i64 L):=ab 2 _ (by show some V[k]!.a1=_;rw[e1])
   have q3:wr.cell? ⟨g,k*6+3,none⟩=some (.string I):=ab 3 _ (by show some V[k]!.a2=_;rw[e2])
   have q4:wr.cell? ⟨g,k*6+4,none⟩=some (.slice U G c2):=ab 4 _ (by show some V[k]!.a3=_;rw[e3])
   have q5:wr.cell? ⟨g,k*6+5,none⟩=some (.slice R F O):=ab 5 _ (by show some V[k]!.a4=_;rw[e4])
   have bj:k+1<n→ ∃Z,Z≠t∧wr.cell? ⟨g,(k+1)*6,none⟩=some (.string Z):=fun h1=>by
    have bm:k+1<r.length:=by rw[aj.out];exact h1
    obtain⟨g',e',cp,bS⟩:=bD.out (k+1) h1
    injection e' with e';injection e' with e'
    subst e'
    refine⟨r[k+1].1,by rw[ht];exact bA.out.ne k bm,?_⟩
    exact(E.bel.cell (p:=⟨g,(k+1)*6,none⟩) ar).trans (bS 0 _ (by show some (Value.string V[k+1]!.nm)=_;rw[(aV.out.at (k+1) bm).1]))
   have aM:=dO wr (.cells #[.string t,.int .i64 M,.int .i64 L,.string I,.slice U G c2,.slice R F O] 133) none
   have bF:=dM (E.moved aM)
   have ak:Hid (Blk (wr.alloc (.cells #[.string t,.int .i64 M,.int .i64 L,.string I,.slice U G c2,.slice R F O] 133)) wr.heap.size 133 [.string t,.int .i64 M,.int .i64 L,.string I,.slice U G c2,.slice R F O]∧B.heap.size+1≤wr.heap.size∧g<B.heap.size):=dM ⟨qb wr rfl [.string t,.int .i64 M,.int .i64 L,.string I,.slice U G c2,.slice R F O] _,E.sz,ar⟩
   have bB:Hid (k+1<n→ ∃Z,Z≠t∧(wr.alloc (.cells #[.string t,.int .i64 M,.int .i64 L,.string I,.slice U G c2,.slice R F O] 133)).cell? ⟨g,(k+1)*6,none⟩=some (.string Z)):=dM fun h=>by
    obtain⟨Z,h1,h2⟩:=bj h
    exact⟨Z,h1,(nl h2 aM (by simp)).trans rfl⟩
   have aw:Hid ((∀b,vK.ownBlock=some b→B.heap.size+1≤b∧b<wr.heap.size)∧(∀b,Y.ownBlock=some b→B.heap.size+1≤b∧b<wr.heap.size)):=dM ⟨fun b h=>E.oK.lt b h,fun b h=>E.oL.lt b h⟩
   have cf:=dM ht
   have cr:=dM (And.intro aD (And.intro aC (And.intro aB (And.intro aA az))))
   have co:(0:Int)≤(k:Int):=by omega
   have cn:(k:Int)<(n:Int):=by omega
   rw[e0,e1,e2,e3,e4]at hx
   have aE:=b8.out _ ((HP.out.mem_iff).1 (fe aK))
   obtain⟨X,hX⟩:=yaa (r[k].2)
   rw[←hX]at hx aE
   have b6:=dM hX
   have cj:Hid (∀W',Below B.heap.size B W'→Calls prog 98 #[.agg #[.int .i64 M,.int .i64 L,.string I,.slice U G c2,.slice R F O]] W' (Cl W' X)):=dM fun W' hW=>
    rt X aE S W' _ (fun b h=>by have:=HS.out b h;have:=ax.out.size;have:=hW.size;omega)
     (RepS.keeps (Keeps.below hW (fun b _ h=>h)) (fun _ h _=>h) _ _ hx)
   have bC:=dM aK
   clear E aI hx hX aE e0 e1 e2 e3 e4 ek ab hc bj aM ht aD aC aB aA az
   go_wp2
   obtain⟨W6,bv⟩: ∃W,W=wr.alloc (.cells #[.string t,.int .i64 M,.int .i64 L,.string I,.slice U G c2,.slice R F O] 133):=⟨_,rfl⟩
   obtain⟨q,hq⟩:=yaa wr.heap.size
   rw[←bv]at bF ak bB⊢
   rw[←hq]at ak aw⊢
   clear bv hq q0 q1 q2 q3 q4 q5 ar
   have d0:=ak.out.1.cell 0
   go_cut[34]from 15 to 50 (fun bH wx=>bH= .bool false∧ ∃z,wx=W6.drewN z)
   case first=>
    by_cases h1:k+1<n
    ·obtain⟨Z,bM,cq⟩:=bB.out h1
     have hd:decide ((k:Int)+1<(n:Int))=true:=ec (by omega)
     have bR:(k:Int)+1<(n:Int):=by omega
     have e9:(Z.toList==t.toList)=false:=by rw[BG];exact dT bM
     go_quiet (fail)
     go_wp2_with fail
     go_meet
     case rel=>exact⟨rfl,_,rfl⟩
    ·have hd:decide ((k:Int)+1<(n:Int))=false:=dT (by omega)
     have bR: ¬(k:Int)+1<(n:Int):=by omega
     go_quiet (fail)
     go_wp2_with fail
     go_meet
     case rel=>exact⟨rfl,_,rfl⟩
   case rest=>
    obtain⟨rfl,z,rfl⟩:=hcut
    have ae:=dM (bF.out.moved (zL z none))
    have au:Blk (W6.drewN z) q 133 [.string t,.int .i64 M,.int .i64 L,.string I,.slice U G c2,.slice R F O]:=ak.out.1.drewN z
    obtain⟨W7,bu⟩: ∃W,W=W6.drewN z:=⟨_,rfl⟩
    rw[←bu]at ae au⊢
    have ci:=dM au
    have m0:W7.cell? ⟨q,0,none⟩=some (.string t):=au.cell 0
    have a3:W7.cell? ⟨B.heap.size,3,none⟩=some Y:=ae.out.c4.cell 3
    have a4:W7.cell? ⟨B.heap.size,4,none⟩=some vK:=ae.out.c4.cell 4
    obtain⟨ns,ag⟩:=yaa (((r.take k).map Prod.fst).map Value.string)
    have aH:=ae.out.oK
    rw[←ag]at aH
    have cd:=dM aH
    have ce:=dM ag
    clear bu au d0 ag aH
    go_wp2_with(at_builtin;refine wpList_append_lies _ rfl _ _ 61 rfl (B.heap.size+1) 9 iS (.string ByteArray.empty) 1 16 gE hT bV bU bT rfl (by decide) vK k ns rfl (cd.out.alloc _) ⟨W7.heap.size,0,none⟩ 1 1 [.string t] rfl rfl ?c1 ?c2 (by decide) ?c3 ?c4 ?c5 _ rfl ?_)
    case c1=>exact fR _ _ _
    case c2=>intro u hu;simp at hu;subst hu;rfl
    case c3=>unfold maxLen;omega
    case c4=>omega
    case c5=>have:=ae.out.sz;simp;omega
    intro g5 av w5 aG ap bs bQ
    have aq:=dO W7 (.cells #[.string t] 9) none
    have bh:(some q:Option Nat)≠vK.ownBlock:=fun e=>by have:=(aw.out.1 q e.symm).2;omega
    have bo:(some B.heap.size:Option Nat)≠vK.ownBlock:=fun e=>by have:=(aw.out.1 _ e.symm).1;omega
    have b5:Blk w5 B.heap.size 63 [.int .i64 5,.int .i64 0,.string ⟨#[]⟩,Y,vK]:=(ae.out.c4.grownN aq).grown ap bo
    have m5:Blk w5 q 133 [.string t,.int .i64 M,.int .i64 L,.string I,.slice U G c2,.slice R F O]:=(ci.out.grownN aq).grown ap bh
    have aa:Hid (BInv B (w5.setCell ⟨B.heap.size,4,none⟩ (.slice (some ⟨g5,0,none⟩) (k+1) av)) r (k+1) k Y (.slice (some ⟨g5,0,none⟩) (k+1) av) xs):=dM
     ((ae.out.moved aq).name bC.out cf.out.symm ap (by rw[←ce.out];exact aG) (bs.imp_right (fun h=>by rw[h];simp)))
    have bk:Blk (w5.setCell ⟨B.heap.size,4,none⟩ (.slice (some ⟨g5,0,none⟩) (k+1) av)) q 133 [.string t,.int .i64 M,.int .i64 L,.string I,.slice U G c2,.slice R F O]:=m5.grown (ou _ _ _ _) (fun e=>by injection e with e;have:=ak.out.2.1;omega)
    have ad:=dM bk
    have ct:Hid (B.heap.size+1≤g5):=dM (aG.lt g5 rfl).1
    have x4:=b5.cell 4
    have f4:=b5.frozen 4
    clear aG ap bs bQ aq bh bo b5 m5 bk m0 a3 a4
    go_wp2
    obtain⟨ay,bb⟩: ∃v,v=Value.slice (some ⟨g5,0,none⟩) (k+1) av:=⟨_,rfl⟩
    rw[←bb]at aa ad⊢
    obtain⟨D,bt⟩: ∃W,W=w5.setCell ⟨B.heap.size,4,none⟩ ay:=⟨_,rfl⟩
    rw[←bt]at aa ad⊢
    clear bt bb x4 f4
    have p3:D.cell? ⟨B.heap.size,3,none⟩=some Y:=aa.out.c4.cell 3
    obtain⟨p4,p5,p6,p7,p8⟩:D.cell? ⟨q,1,none⟩=some (.int .i64 M)∧D.cell? ⟨q,2,none⟩=some (.int .i64 L)∧D.cell? ⟨q,3,none⟩=some (.string I)∧D.cell? ⟨q,4,none⟩=some (.slice U G c2)∧D.cell? ⟨q,5,none⟩=some (.slice R F O):=⟨ad.out.cell 1,ad.out.cell 2,ad.out.cell 3,ad.out.cell 4,ad.out.cell 5⟩
    have ck:=dM (fun W' (hW:Below D.heap.size D W')=>cj.out W' (aa.out.bel.trans (hW.mono (Nat.le_of_succ_le aa.out.sz))))
    have bO:B.heap.size<D.heap.size:=aa.out.sz
    go_region_law(first
     |(go_simp;go_at_call 98;(with_reducible refine(ck.out _ ((dU D.heap.size D).drew)).mono ?_);rintro e N ⟨v',rfl,am,bp⟩
       obtain⟨vk,A3,c3,rfl, -,⟨K3,d3,rfl, -, -⟩, -, -⟩:=am.open
       obtain⟨x0,ba⟩: ∃a,a=X.kind:=⟨_,rfl⟩
       obtain⟨x1,a8⟩: ∃a,a=X.n:=⟨_,rfl⟩
       obtain⟨x2,a7⟩: ∃a,a=X.s:=⟨_,rfl⟩
       obtain⟨x3,a6⟩: ∃a,a=X.l.length:=⟨_,rfl⟩
       obtain⟨x4,aZ⟩: ∃a,a=X.k.length:=⟨_,rfl⟩
       rw[←ba,←a8,←a7,←a6,←aZ]at am⊢
       clear ba a8 a7 a6 aZ
       have aW:Hid (Below D.heap.size D N):=dM (((dU D.heap.size D).drew).trans bp)
       have ca:Hid (RepS N (fun b=>D.heap.size≤b) X (.agg #[.int .i64 x0,.int .i64 x1,.string x2,.slice A3 x3 c3,.slice K3 x4 d3])):=dM (RepS.keeps (Keeps.refl _ N) (fun b (h:_≤b) _=>h) _ _ am)
       have aY:N.cell? ⟨B.heap.size,3,none⟩=some Y:=(aW.out.cell (p:=⟨B.heap.size,3,none⟩) bO).trans p3
       have bJ:D.heap.size≤N.heap.size:=aW.out.size
       have bI:(N.alloc (.cells #[.int .i64 x0,.int .i64 x1,.string x2,.slice A3 x3 c3,.slice K3 x4 d3] 63)).cell? ⟨B.heap.size,3,none⟩=some Y:=nl aY (dO N _ none) (by simp)
       clear am bp)
     |(have aU:Hid (D.grownBy (N.alloc (.cells #[.int .i64 x0,.int .i64 x1,.string x2,.slice A3 x3 c3,.slice K3 x4 d3] 63)) none):=dM ((od aW.out none).trans (dO _ _ none))
       refine fX _ (by rfl) _ _ _ (by rfl) (B.heap.size+1) 63 iJ (.agg zeros5.toArray) 5 80 fY hJ bY bX bW rfl (by omega) Y k xs (by rfl) (aa.out.moved aU.out).oL ⟨N.heap.size,0,none⟩ 1 1 [.int .i64 x0,.int .i64 x1,.string x2,.slice A3 x3 c3,.slice K3 x4 d3] (by rfl) (by rfl) (eU (cs:= #[.int .i64 x0,.int .i64 x1,.string x2,.slice A3 x3 c3,.slice K3 x4 d3]) (t:=63) (fr:=(0,0)) (eC N _)) (by simp[Value.oneCell']) (by omega) (by unfold maxLen;omega) (by omega) (by simp;omega) (N.heap.size+1) (by simp) ?_
       intro g6 bx aX bi aL br bP
       have aT:Blk aX B.heap.size 63 [.int .i64 5,.int .i64 0,.string ⟨#[]⟩,Y,ay]:=(aa.out.c4.grownN aU.out).grown aL (fun e=>by have:=(aw.out.2 _ e.symm).1;omega)
       have bG:=aT.cell 3
       have bZ:=aT.frozen 3
       clear aT
       try go_frame))
    all_goals
     have HF:Hid (BInv B (aX.setCell ⟨B.heap.size,3,none⟩ (.slice (some ⟨g6,0,none⟩) (k+1) bx)) r (k+1) (k+1) (.slice (some ⟨g6,0,none⟩) (k+1) bx) ay (xs++[.int .i64 x0,.int .i64 x1,.string x2,.slice A3 x3 c3,.slice K3 x4 d3])):=dM
      (aa.out.value aU.out bC.out b6.out.symm (RepS.keeps (Keeps.grown (dO N _ none) (fun b _ e=>by cases e)) (fun _ h _=>h) _ _ ca.out) aL bi (br.imp_right (fun h=>by rw[h];simp)))
     clear bi aL br bP bG bZ p3 p4 p5 p6 p7 p8 aY bI bJ
     go_wp2_with fail
     go_roundw
     case rel=>exact⟨k+1,by omega,by go_num,_,_,_,HF.out⟩
     case measure=>simp[intOf];omega
  ·obtain rfl:k=n:=by omega
   have cm: ¬(k:Int)<(k:Int):=by omega
   obtain⟨A6,c6,rfl⟩:=qW E.oL
   obtain⟨A7,c7,rfl⟩:=qW E.oK
   have aQ:Below Q.heap.size Q wr:=ax.out.trans (E.bel.mono ax.out.size)
   have hz:Blk wr w.heap.size 63 zeros5:=cl.out.below aQ (by have:=ai.out;omega)
   have bn:RepS wr (fun b=>Q.heap.size≤b) (.mk 5 0 ⟨#[]⟩ (r.map Prod.snd) (r.map Prod.fst)) (.agg #[.int .i64 5,.int .i64 0,.string ⟨#[]⟩,.slice A6 k c6,.slice A7 k c7]):=by
    have bw:=E
    rw[←aj.out]at bw
    have:=bw.done (W0:=Q) ax.out.size (by rw[aj.out];omega) (fun m hm=>by
     obtain⟨i,hi,rfl⟩:=i7.1 hm
     exact(aV.out.at i hi).2.1)
    rw[aj.out]at this
    exact this
   have bd:=BP hz (.int .i64 5) (.int .i64 0) (.string ⟨#[]⟩) (.slice A6 k c6) (.slice A7 k c7)
   have HF:=dM bd
   have bE:=dM aQ
   have ch:=dM bn
   have cc:Hid (py ms=(r.map Prod.fst,r.map Prod.snd)):=dM (cb.out r HP.out bA.out)
   have af:=E.c4
   obtain⟨a0,a1,a2,a3,a4⟩:wr.cell? ⟨B.heap.size,0,none⟩=some (.int .i64 5)∧wr.cell? ⟨B.heap.size,1,none⟩=some (.int .i64 0)∧wr.cell? ⟨B.heap.size,2,none⟩=some (.string ⟨#[]⟩)∧wr.cell? ⟨B.heap.size,3,none⟩=some (.slice A6 k c6)∧wr.cell? ⟨B.heap.size,4,none⟩=some (.slice A7 k c7):=⟨af.cell 0,af.cell 1,af.cell 2,af.cell 3,af.cell 4⟩
   obtain⟨b0,b1,b2,b3,b4⟩:wr.cell? ⟨w.heap.size,0,none⟩=some (.int .i64 0)∧wr.cell? ⟨w.heap.size,1,none⟩=some (.int .i64 0)∧wr.cell? ⟨w.heap.size,2,none⟩=some (.string ⟨#[]⟩)∧wr.cell? ⟨w.heap.size,3,none⟩=some (.slice none 0 0)∧wr.cell? ⟨w.heap.size,4,none⟩=some (.slice none 0 0):=⟨hz.cell 0,hz.cell 1,hz.cell 2,hz.cell 3,hz.cell 4⟩
   obtain⟨f0,f1,f2,f3,f4⟩:wr.frozen? ⟨w.heap.size,0,none⟩=false∧wr.frozen? ⟨w.heap.size,1,none⟩=false∧wr.frozen? ⟨w.heap.size,2,none⟩=false∧wr.frozen? ⟨w.heap.size,3,none⟩=false∧wr.frozen? ⟨w.heap.size,4,none⟩=false:=⟨hz.frozen 0,hz.frozen 1,hz.frozen 2,hz.frozen 3,hz.frozen 4⟩
   clear E aQ hz bn bd af
   go_wp2
   refine dW (BH results85 _ _ w.heap.size _ _ _ rfl HF.out.1 ed rfl m8) rfl ?_
   rw[cc.out]
   refine⟨_,rfl,RepS.keeps (Keeps.grown HF.out.2 (fun b (h:_≤b) e=>by injection e with e;have:=ai.out;omega)) (fun b (h:_≤b) _=>show w.heap.size≤b by have:=ai.out;omega) _ _ ch.out,?_⟩
   have bK:Below w.heap.size w Q:=by rw[bz.out];exact(dU w.heap.size w).alloc (dQ _) _
   exact(bK.trans (bE.out.mono (by have:=ai.out;omega))).grown HF.out.2 (by have:=bE.out.size;have:=ai.out;omega) (by intro k hk;injection hk with hk;omega)
end Go.Proofs.YtceddodfddlncaaGreatDoor
namespace Go.Proofs.YtceddodfddlncaaGreatDoor
open Go Go.Shelf Go.RowKit Go.Lib Go.Sort Tryz
def rL {α:Type} [Inhabited α] (a b:Nat):Nat→Nat→Array α→Array α
 |0,_,d=>d
 |f+1,i,d=>rL a b f (i+1) (swp d (a+i) (b+i))
theorem Hd {α:Type} [Inhabited α] (a b:Nat): ∀(f i:Nat) (d:Array α),(rL a b f i d).size=d.size
 |0,_,_=>rfl
 |f+1,i,d=>by rw[rL,Hd a b f (i+1),size_swp]
theorem NZ {P:Program} {α:Type} [Inhabited α] (L:SlLaysF0.n20 P Tryz.insertM_ren) (FG:P.funcs[214]? =some Tryz.f214) (k:Nat) (aE: ∀w,(isAgg 133).run P w= .ok true w) (zE: ∀w,(Go.sizeOf 133).run P w= .ok k w)
  (enc:α→List Value) (Y: ∀x,(enc x).length=k) (h1: ∀x,∀v∈enc x,v.oneCell'=true) (fv:Value) (blk B af a b n:Nat) (d:Array α) (w:World) (V:HoldsK enc k w blk B d) (Z:blk<w.heap.size) (ha:a+n≤d.size) (hb:b+n≤d.size) (ai:d.size<4611686018427387904):
  Calls P 214 #[.slice (some ⟨blk,B,none⟩) d.size af,.int .i64 a,.int .i64 b,.int .i64 n,fv] w fun e w'=>
   e= .returned (.tuple #[])∧ ∃m os,w'=sortWorldK enc k w blk B m (rL a b n 0 d) os:=by
 have mixed:=L.mixed
 have t22:P.underlying 174=some (.slice 133):=L.t22
 have a22: ∀w,(isAgg 174).run P w= .ok false w:=L.a22
 have z22: ∀w,(Go.sizeOf 174).run P w= .ok 1 w:=L.z22
 have v22: ∀w,(zeroValue 174).run P w= .ok (Value.slice none 0 0) w:=L.v22
 have t3:P.underlying 3=some (.int .i64):=L.t3
 have a3: ∀w,(isAgg 3).run P w= .ok false w:=L.a3
 have z3: ∀w,(Go.sizeOf 3).run P w= .ok 1 w:=L.z3
 have v3: ∀w,(zeroValue 3).run P w= .ok (.int .i64 0) w:=L.v3
 have u22:=i8 t22
 have ah:Hid (w=sortWorldK enc k w blk B 0 d #[]):=by show w=_;unfold sortWorldK;rw[grow_empty];exact(putRowK_self enc k w blk B d V).symm
 have HH:Hid (HoldsK enc k w blk B d):=V
 have E:Hid (∀x,(enc x).length=k):=Y
 have H1:Hid (∀x,∀v∈enc x,v.oneCell'=true):=h1
 clear V Y h1
 go_enter FG,Tryz.ntmps214
 go_wp2
 go_loopw[10] (fun v wr=> ∃(i m:Nat) (D:Array α),v= .int .i64 i∧i≤n∧D.size=d.size∧wr=sortWorldK enc k w blk B m D #[]∧Hid (rL a b (n-i) i D=rL a b n 0 d)) (fun v _=>n-(intOf v).toNat)
 case atStart=>exact⟨0,0,d,rfl,eN _,rfl,ah.out,rfl⟩
 case round=>
  obtain⟨i,m,D,rfl,ak,X,rfl,HO⟩:=hrel
  by_cases aj:i<n
  ·have ae:(i:Int)<(n:Int):=by omega
   obtain⟨F,Q⟩: ∃x,D[a+i]! =x:=⟨_,rfl⟩
   obtain⟨xb,O⟩: ∃x,D[b+i]! =x:=⟨_,rfl⟩
   obtain⟨p,U⟩:=yaa (a+i)
   obtain⟨q,R⟩:=yaa (b+i)
   rw[←U]at Q
   rw[←R]at O
   have wp:IntKind.i64.wrap ((a:Int)+(i:Int))=(p:Int):=by rw[es];omega
   have wq:IntKind.i64.wrap ((b:Int)+(i:Int))=(q:Int):=by rw[es];omega
   have p0:(0:Int)≤(p:Int):=by omega
   have q0:(0:Int)≤(q:Int):=by omega
   have pz:(p:Int)<(d.size:Int):=by omega
   have qz:(q:Int)<(d.size:Int):=by omega
   have G:HoldsK enc k (sortWorldK enc k w blk B m D #[]).drew blk B D:=by
    have:=ip enc k w blk B d D m #[] HH.out Z X
    exact this
   generalize W:sortWorldK enc k w blk B m D #[]=wr at G⊢
   have ag:=dM W
   have N: ∀x,x<D.size→x*k+k≤D.size*k:=fun x hx=>by
    have:=iX k (show x+1≤D.size from hx);rwa [lu,me]at this
   have la:Sem.run P (loadCellsFrom ⟨blk,B+p*k,none⟩ 0 k #[]) wr.drew= .ok (enc F).toArray wr.drew:=by rw[←Q];exact gH P _ _ _ k (E.out _) (jg G E.out (by omega))
   have lb:Sem.run P (loadCellsFrom ⟨blk,B+q*k,none⟩ 0 k #[]) wr.drew= .ok (enc xb).toArray wr.drew:=by rw[←O];exact gH P _ _ _ k (E.out _) (jg G E.out (by omega))
   have s1:Sem.run P (storeCells ⟨blk,B+p*k,none⟩ (enc xb) 0) wr.drew= .ok () (wr.drew.setCells blk (B+p*k) (enc xb)):=j1 P G (p*k) _ (by rw[E.out,size_flatK];exact N p (by omega)) (H1.out _)
   have s2:Sem.run P (storeCells ⟨blk,B+q*k,none⟩ (enc F) 0) (wr.drew.setCells blk (B+p*k) (enc xb))= .ok () ((wr.drew.setCells blk (B+p*k) (enc xb)).setCells blk (B+q*k) (enc F)):=
    j1 P (mv G (p*k) _ (by rw[E.out,size_flatK];exact N p (by omega))) (q*k) _ (by rw[E.out,size_setMany,size_flatK];exact N q (by omega)) (H1.out _)
   have ad:(enc F).length=k:=E.out _
   have ab:(enc xb).length=k:=E.out _
   have HP:=dM U
   have HQ:=dM R
   clear W G N U R
   obtain⟨cA,M⟩: ∃c,c=enc F:=⟨_,rfl⟩
   obtain⟨cB,I⟩: ∃c,c=enc xb:=⟨_,rfl⟩
   rw[←I]at s1 lb ab
   rw[←M]at la ad
   rw[←M,←I]at s2
   have CC:Hid (cA=enc F∧cB=enc xb):=⟨M,I⟩
   clear M I
   go_wp2_with fail
   go_big_region_o
   all_goals go_wp2
   refine⟨⟨i+1,m+1,swp D p q,by go_num,by omega,by rw[size_swp];exact X,?_,(show Hid _ from ?_)⟩,by simp[intOf];omega⟩
   ·rw[CC.out.1,CC.out.2,←Q,←O,←ag.out]
    exact mq enc k w blk B E.out m D #[] Z p q (by omega) (by omega)
   ·show _=_
    have:=HO.out
    rw[show n-i=(n-(i+1))+1 by omega,rL]at this
    rw[HP.out,HQ.out]
    exact this
  ·obtain rfl:i=n:=by omega
   have ae: ¬(i:Int)<(i:Int):=by omega
   go_wp2
   go_end0
   exact⟨rfl,m,#[],by rw[←HO.out,hZ];rfl⟩
theorem NY (blk B a b n:Nat) (d:Array MT) (w:World) (L:HoldsK ni 6 w blk 0 d) (F:blk<w.heap.size) (I:a+n≤d.size) (G:b+n≤d.size) (E:d.size<4611686018427387904):
  Calls Tryz.prog 214 #[.slice (some ⟨blk,0,none⟩) d.size B,.int .i64 a,.int .i64 b,.int .i64 n,.func (.func 117) #[] #[]] w fun e w'=>
   e= .returned (.tuple #[])∧ ∃m D,w'=sortWorldK ni 6 w blk 0 m (rL a b n 0 d) D:=
 NZ Tryz.insertM Tryz.func214 6 Tryz.isAgg133 Tryz.sizeOf133 ni (fun _=>rfl) Ko _ blk 0 B a b n d w L F I G E
end Go.Proofs.YtceddodfddlncaaGreatDoor
namespace Go.Proofs.YtceddodfddlncaaGreatDoor
open Go Go.Sort Tryz
variable {α:Type} [Inhabited α]
theorem sA (d:Array α) {i j:Nat} (hi:i<d.size) (B:j<d.size) (x:Nat):(swp d i j)[x]! =if x=j then d[i]! else if x=i then d[j]! else d[x]! :=by
 by_cases h:x=j
 ·subst h;rw[dP rfl];exact swp_right d i x B
 ·rw[dN h]
  by_cases q:x=i
  ·subst q;rw[dP rfl];exact swp_left d x j hi h
  ·rw[dN q];exact swp_other d i j x q h
theorem Js {a b:Nat}: ∀(f i:Nat) (d:Array α),a+i+f≤b→b+i+f≤d.size→ ∀x,(rL a b f i d)[x]! =if a+i≤x∧x<a+i+f then d[b+(x-a)]! else if b+i≤x∧x<b+i+f then d[a+(x-b)]! else d[x]!
 |0,i,d,_,_,x=>by rw[rL,dN (by omega),dN (by omega)]
 |f+1,i,d,h1,h2,x=>by
  rw[rL,Js f (i+1) (swp d (a+i) (b+i)) (by omega) (by rw[size_swp];omega) x]
  have g:=fun y=>sA d (i:=a+i) (j:=b+i) (by omega) (by omega) y
  by_cases c1:a+(i+1)≤x∧x<a+(i+1)+f
  ·rw[dP c1,dP (by omega),g,dN (by omega),dN (by omega)]
  ·rw[dN c1]
   by_cases c2:b+(i+1)≤x∧x<b+(i+1)+f
   ·rw[dP c2,dN (by omega),dP (by omega),g,dN (by omega),dN (by omega)]
   ·rw[dN c2,g]
    by_cases c3:x=b+i
    ·rw[dP c3,dN (by omega),dP (by omega)];congr 1;omega
    ·rw[dN c3]
     by_cases c4:x=a+i
     ·rw[dP c4,dP (by omega)];congr 1;omega
     ·rw[dN c4,dN (by omega),dN (by omega)]
theorem JG {lo hi a b:Nat}: ∀(f i:Nat) (d:Array α),lo≤a→a+i+f≤hi→lo≤b→b+i+f≤hi→hi≤d.size→PermIn lo hi d (rL a b f i d)
 |0,i,d,_,_,_,_,_=>permIn_refl _ _ _
 |f+1,i,d,h1,h2,h3,h4,h5=>by
  rw[rL]
  exact permIn_trans _ _ _ _ _ (swp_permIn d lo hi (a+i) (b+i) (by omega) (by omega) (by omega) (by omega) h5) (JG f (i+1) _ h1 (by omega) h3 (by omega) (by rw[size_swp];exact h5))
def tW (m:Nat):Nat→Nat→Nat→Array α→Array α
 |0,_,_,d=>d
 |f+1,i,j,d=>if i=j then rL (m-i) m i 0 d else if j<i then tW m f (i-j) j (rL (m-i) m j 0 d)else tW m f i (j-i) (rL (m-i) (m+j-i) i 0 d)
theorem KB (m:Nat): ∀(f i j:Nat) (d:Array α),i≤m→m+j≤d.size→0<i→0<j→i+j≤f→Rot d (tW m f i j d) (m-i) m (m+j)∧PermIn (m-i) (m+j) d (tW m f i j d)
 |0,i,j,d,_,_,h,_,hf=>absurd hf (by omega)
 |f+1,i,j,d,hi,hj,i0,j0,hf=>by
  rw[tW]
  by_cases e:i=j
  ·subst e
   rw[dP rfl]
   have g:=fun x=>Js (a:=m-i) (b:=m) i 0 d (by omega) (by omega) x
   refine⟨⟨fun x L=> ?_,fun x h1 D=> ?_,fun x h1 D=> ?_⟩,JG i 0 d (by omega) (by omega) (by omega) (by omega) hj⟩
   ·rw[g,dN (by omega),dN (by omega)]
   ·rw[g,dP (by omega)]
   ·rw[g,dN (by omega),dP (by omega)]<;>(congr 1<;>omega)
  ·rw[dN e]
   by_cases M:j<i
   ·rw[dP M]
    have g:=fun x=>Js (a:=m-i) (b:=m) j 0 d (by omega) (by omega) x
    have B:=Hd (m-i) m j 0 d
    have I:=JG (lo:=m-i) (hi:=m+j) (a:=m-i) (b:=m) j 0 d (by omega) (by omega) (by omega) (by omega) hj
    obtain⟨⟨q,G,F⟩,E⟩:=KB m f (i-j) j (rL (m-i) m j 0 d) (by omega) (by rw[B];exact hj) (by omega) j0 (by omega)
    refine⟨⟨fun x L=> ?_,fun x h1 D=> ?_,fun x h1 D=> ?_⟩,permIn_trans _ _ _ _ _ I (permIn_mono _ _ _ _ _ _ (by omega) (dQ _) (by rw[B];exact hj) E)⟩
    ·rw[q x (by omega),g,dN (by omega),dN (by omega)]
    ·rw[q x (by omega),g,dP (by omega)]
    ·by_cases c:x<m-i+j+j
     ·rw[G x (by omega) (by omega),g,dN (by omega),dP (by omega)]<;>(congr 1<;>omega)
     ·rw[F x (by omega) (by omega),g,dN (by omega),dN (by omega)]<;>(congr 1<;>omega)
   ·rw[dN M]
    have g:=fun x=>Js (a:=m-i) (b:=m+j-i) i 0 d (by omega) (by omega) x
    have B:=Hd (m-i) (m+j-i) i 0 d
    have I:=JG (lo:=m-i) (hi:=m+j) (a:=m-i) (b:=m+j-i) i 0 d (by omega) (by omega) (by omega) (by omega) hj
    obtain⟨⟨q,G,F⟩,E⟩:=KB m f i (j-i) (rL (m-i) (m+j-i) i 0 d) hi (by rw[B];omega) i0 (by omega) (by omega)
    refine⟨⟨fun x L=> ?_,fun x h1 D=> ?_,fun x h1 D=> ?_⟩,permIn_trans _ _ _ _ _ I (permIn_mono _ _ _ _ _ _ (dQ _) (by omega) (by rw[B];exact hj) E)⟩
    ·rw[q x (by omega),g,dN (by omega),dN (by omega)]
    ·by_cases c:x<m-i+(j-i)
     ·rw[G x (by omega) (by omega),g,dN (by omega),dN (by omega)]<;>(congr 1<;>omega)
     ·rw[F x (by omega) (by omega),g,dP (by omega)]<;>(congr 1<;>omega)
    ·rw[q x (by omega),g,dN (by omega),dP (by omega)]<;>(congr 1<;>omega)
variable {α:Type} [Inhabited α]
theorem Rot.up {d q:Array α} {a k:Nat} (h:Rot d q a (a+1) (k+1)) (I:a≤k) (F:k+1<q.size):Rot d (swp q k (k+1)) a (a+1) (k+2):=by
 obtain⟨B,E,D⟩:=h
 have g:=fun x=>sA q (i:=k) (j:=k+1) (by omega) F x
 refine⟨fun i hi=> ?_,fun i h1 G=> ?_,fun i h1 G=> ?_⟩
 ·rw[g,dN (by omega),dN (by omega)];exact B i (by omega)
 ·rw[g,dN (by omega)]
  by_cases e:i=k
  ·rw[dP e,B (k+1) (.inr (by omega))];congr 1;omega
  ·rw[dN e];exact E i h1 (by omega)
 ·have e:i=k+1:=by omega
  subst e
  rw[g,dP rfl,D k (by omega) (by omega)];congr 1;omega
theorem Rot.down {d q:Array α} {m k:Nat} (h:Rot d q k m (m+1)) (L:0<k) (I:k≤m) (G:m<q.size):Rot d (swp q k (k-1)) (k-1) m (m+1):=by
 obtain⟨B,F,E⟩:=h
 have g:=fun x=>sA q (i:=k) (j:=k-1) (by omega) (by omega) x
 refine⟨fun i hi=> ?_,fun i h1 D=> ?_,fun i h1 D=> ?_⟩
 ·rw[g,dN (by omega),dN (by omega)];exact B i (by omega)
 ·have e:i=k-1:=by omega
  subst e
  rw[g,dP rfl,F k (dQ _) (by omega)];congr 1;omega
 ·rw[g,dN (by omega)]
  by_cases e:i=k
  ·rw[dP e,B (k-1) (.inl (by omega))];congr 1;omega
  ·rw[dN e];rw[E i (by omega) D]
theorem Rot.self_up (d:Array α) (a:Nat):Rot d d a (a+1) (a+1):=Rot.none d (by omega) (dQ _) (.inr rfl)
theorem Rot.self_down (d:Array α) (m:Nat):Rot d d m m (m+1):=Rot.none d (dQ _) (by omega) (.inl rfl)
variable {lt:α→α→Bool}
theorem SWO.less_down (B:SWO lt) {x y z:α} (h1:lt z y=false) (q:lt z x=true):lt y x=true:=by
 cases h:lt y x with
 |true=>rfl
 |false=>rw[B.ntrans _ _ _ h1 h]at q;cases q
theorem SWO.less_up (B:SWO lt) {x y z:α} (h1:lt y z=false) (q:lt x z=true):lt x y=true:=by
 cases h:lt x y with
 |true=>rfl
 |false=>rw[B.ntrans _ _ _ h h1]at q;cases q
theorem SWO.less_down2 (q:SWO lt) {x y z:α} (h1:lt z y=false) (B:lt z x=true):lt y x=true:=SWO.less_down q h1 B
theorem Gt (U:SWO lt) {d B:Array α} {a i b:Nat} (Y:a+1≤i) (W:i≤b) (E:SortedIn lt (a+1) b d) (h1: ∀t,a+1≤t→t<i→lt d[t]! d[a]! =true) (V: ∀t,i≤t→t<b→lt d[t]! d[a]! =false) (N:Rot d B a (a+1) i):SortedIn lt a b B:=by
 obtain⟨M,L,I⟩:=N
 have v: ∀t,a≤t→t<b→(t+1<i∧B[t]! =d[t+1]!)∨(t+1=i∧B[t]! =d[a]!)∨(i≤t∧B[t]! =d[t]!):=fun t R X=>by
  by_cases c1:t+1<i
  ·exact .inl ⟨c1,by rw[L t R (by omega)];congr 1;omega⟩
  ·by_cases c2:t+1=i
   ·exact .inr (.inl ⟨c2,by rw[I t (by omega) (by omega)];congr 1;omega⟩)
   ·exact .inr (.inr ⟨by omega,M t (by omega)⟩)
 intro p q Q O D
 rcases v p Q (by omega)with⟨c1,G⟩|⟨c1,G⟩|⟨c1,G⟩<;>rcases v q (by omega) D with⟨c2,F⟩|⟨c2,F⟩|⟨c2,F⟩<;>rw[G,F]
 ·exact E _ _ (by omega) (by omega) (by omega)
 ·exact SWO.asymm U (h1 _ (by omega) c1)
 ·exact E _ _ (by omega) (by omega) D
 ·omega
 ·omega
 ·exact V q c2 D
 ·omega
 ·omega
 ·exact E _ _ (by omega) O D
theorem CK (R:SWO lt) {d B:Array α} {a i m:Nat} (X:a≤i) (V:i≤m) (E:SortedIn lt a m d) (h1: ∀t,a≤t→t<i→lt d[m]! d[t]! =false) (U: ∀t,i≤t→t<m→lt d[m]! d[t]! =true) (N:Rot d B i m (m+1)):SortedIn lt a (m+1) B:=by
 obtain⟨M,L,I⟩:=N
 have v: ∀t,a≤t→t<m+1→(t<i∧B[t]! =d[t]!)∨(t=i∧B[t]! =d[m]!)∨(i<t∧B[t]! =d[t-1]!):=fun t Y W=>by
  by_cases c1:t<i
  ·exact .inl ⟨c1,M t (.inl c1)⟩
  ·by_cases c2:t=i
   ·exact .inr (.inl ⟨c2,by rw[L t (by omega) (by omega)];congr 1;omega⟩)
   ·exact .inr (.inr ⟨by omega,by rw[I t (by omega) (by omega)];congr 1;omega⟩)
 intro p q D Q O
 rcases v p D (by omega)with⟨c1,G⟩|⟨c1,G⟩|⟨c1,G⟩<;>rcases v q (by omega) O with⟨c2,F⟩|⟨c2,F⟩|⟨c2,F⟩<;>rw[G,F]
 ·exact E _ _ D Q (by omega)
 ·exact h1 p D c1
 ·exact E _ _ D (by omega) (by omega)
 ·omega
 ·omega
 ·exact SWO.asymm R (U _ (by omega) (by omega))
 ·omega
 ·omega
 ·exact E _ _ (by omega) (by omega) (by omega)
theorem zU (Q:SWO lt) {d:Array α} {a m b q s B D:Nat} (O:a<m) (N:m<b) (M:q=(a+b)/2) (h0:(q<m∧B=q+m-b∧D=q)∨(m≤q∧B=a∧D=m)) (L:B≤s) (I:s≤D)
  (E: ∀c,B≤c→c<s→lt d[q+m-1-c]! d[c]! =false) (F: ∀c,s≤c→c<D→lt d[q+m-1-c]! d[c]! =true):
  a≤s∧s≤m∧s≤q∧m≤q+m-s∧q+m-s≤b∧q≤q+m-s∧(a<s→q+m-s<b→lt d[q+m-s]! d[s-1]! =false)∧(s<m→m<q+m-s→lt d[q+m-s-1]! d[s]! =true):=by
 refine⟨by omega,by omega,by omega,by omega,by omega,by omega,fun h1 G=> ?_,fun h1 G=> ?_⟩
 ·have:=E (s-1) (by omega) (by omega)
  rwa [show q+m-1-(s-1)=q+m-s by omega]at this
 ·have:=F s (dQ _) (by omega)
  rwa [show q+m-1-s=q+m-s-1 by omega]at this
theorem tG (B:SWO lt) {d:Array α} {a m b q c h:Nat} (h1:SortedIn lt a m d) (I:SortedIn lt m b d) (G:a≤c) (F:c≤h) (E:h<m) (O:m+h≤q) (N:q<b+c) (D:lt d[q-h]! d[h]! =false):lt d[q-c]! d[c]! =false:=by
 have M:=SWO.le B h1 G F E
 have L:=SWO.le B I (i:=q-h) (j:=q-c) (by omega) (by omega) (by omega)
 exact B.ntrans _ _ _ (B.ntrans _ _ _ L D) M
theorem tH (B:SWO lt) {d:Array α} {a m b q c h:Nat} (h1:SortedIn lt a m d) (I:SortedIn lt m b d) (E:a≤h) (F:h≤c) (G:c<m) (O:m+c≤q) (N:q<b+h) (D:lt d[q-h]! d[h]! =true):lt d[q-c]! d[c]! =true:=by
 have M:=SWO.le B h1 E F G
 have L:=SWO.le B I (i:=q-c) (j:=q-h) (by omega) (by omega) (by omega)
 exact SWO.less_up B M (SWO.less_down B L D)
variable {α:Type} [Inhabited α]
inductive BlkFrom (lt:α→α→Bool) (bs n:Nat) (d:Array α):Nat→Prop
 |done (p:Nat):n≤p→BlkFrom lt bs n d p
 |more (p:Nat):p<n→SortedIn lt p (min (p+bs) n) d→BlkFrom lt bs n d (p+bs)→BlkFrom lt bs n d p
inductive BlkTo (lt:α→α→Bool) (bs:Nat) (d:Array α):Nat→Prop
 |zero:BlkTo lt bs d 0
 |step (p:Nat):BlkTo lt bs d p→SortedIn lt p (p+bs) d→BlkTo lt bs d (p+bs)
variable {lt:α→α→Bool} {bs n:Nat} {d d':Array α}
theorem Kg {a b:Nat} (h:SortedIn lt a b d) (q: ∀i,a≤i→i<b→d'[i]! =d[i]!):SortedIn lt a b d':=fun i j hi D B=>by
 rw[q i hi (by omega),q j (by omega) B];exact h i j hi D B
theorem BlkTo.same {p:Nat} (h:BlkTo lt bs d p) (q: ∀i,i<p→d'[i]! =d[i]!):BlkTo lt bs d' p:=by
 induction h with
 |zero=>exact .zero
 |step p h1 h2 ih=>exact .step p (ih fun i hi=>q i (by omega)) (Kg h2 fun i _ h=>q i h)
theorem BlkFrom.same {p:Nat} (h:BlkFrom lt bs n d p) (q: ∀i,p≤i→d'[i]! =d[i]!):BlkFrom lt bs n d' p:=by
 induction h with
 |done p h=>exact .done p h
 |more p h1 h2 _ ih=>exact .more p h1 (Kg h2 fun i h _=>q i h) (ih fun i hi=>q i (by omega))
theorem BlkTo.join {p:Nat} (h:BlkTo lt bs d p) (B:p≤n) (q:BlkFrom lt bs n d p):BlkFrom lt bs n d 0:=by
 induction h with
 |zero=>exact q
 |step p h1 h2 ih=>
  by_cases D:p<n
  ·exact ih (by omega) (.more p D (by rw[fK B];exact h2) q)
  ·have h0:bs=0:=by omega
   subst h0
   exact ih (by omega) q
theorem BlkFrom.head {p:Nat} (h:BlkFrom lt bs n d p) (q:p<n):SortedIn lt p (min (p+bs) n) d∧BlkFrom lt bs n d (p+bs):=by
 cases h with
 |done _ h=>omega
 |more _ _ h2 h3=>exact⟨h2,h3⟩
theorem Fi (h:BlkFrom lt bs n d 0) (q:n≤bs):SortedIn lt 0 n d:=by
 by_cases h0:n=0
 ·subst h0;intro i j _ _ h;omega
 ·have:=(h.head (by omega)).1
  rwa [eL,lg q]at this
theorem vI {p:Nat} (h:SortedIn lt p n d) (B:n<p+bs):BlkFrom lt bs n d p:=by
 by_cases q:p<n
 ·exact .more p q (by rw[lg (by omega)];exact h) (.done _ (by omega))
 ·exact .done p (by omega)
end Go.Proofs.YtceddodfddlncaaGreatDoor
namespace Go.Proofs.YtceddodfddlncaaGreatDoor
open Go Go.Shelf Go.RowKit Go.Lib Go.Sort Tryz
theorem zV {P:Program} {α:Type} [Inhabited α] (L:SlLaysF0.n20 P Tryz.insertM_ren) (FG:P.funcs[176]? =some Tryz.f176) (tU:P.underlying 111=some (.int .u64)) (k:Nat) (aE: ∀w,(isAgg 133).run P w= .ok true w) (zE: ∀w,(Go.sizeOf 133).run P w= .ok k w)
  (enc:α→List Value) (hk: ∀x,(enc x).length=k) (h1: ∀x,∀v∈enc x,v.oneCell'=true) (G:α→α→Int) (hO:SWO (ltOf G)) (g:Nat) (cb:Array Value) (eg: ∀args w,(callFunc g args).run P w= .ok (.enter g args) w) (blk B aJ N:Nat) (w0:World) (d0:Array α) (hN:d0.size=N) (hH:HoldsK enc k w0 blk B d0) (au:blk<w0.heap.size) (aP:N<1152921504606846976) (ar:CmpLays P g cb enc k G blk B N w0)
  (a m b n:Nat) (d:Array α) (E:Array Obj) (ap:m=a+1) (aQ:m<b) (hb:b≤N) (W:d.size=N) (ao:SortedIn (ltOf G) m b d):
  Calls P 176 #[.slice (some ⟨blk,B,none⟩) N aJ,.int .i64 a,.int .i64 m,.int .i64 b,.func (.func g) #[] cb] (sortWorldK enc k w0 blk B n d E) fun e w'=>e= .returned (.tuple #[])∧ ∃I D d',w'=sortWorldK enc k w0 blk B I d' D∧PermIn a b d d'∧SortedIn (ltOf G) a b d':=by
 have mixed:=L.mixed
 have t22:P.underlying 174=some (.slice 133):=L.t22
 have a22: ∀w,(isAgg 174).run P w= .ok false w:=L.a22
 have z22: ∀w,(Go.sizeOf 174).run P w= .ok 1 w:=L.z22
 have v22: ∀w,(zeroValue 174).run P w= .ok (Value.slice none 0 0) w:=L.v22
 have t3:P.underlying 3=some (.int .i64):=L.t3
 have a3: ∀w,(isAgg 3).run P w= .ok false w:=L.a3
 have z3: ∀w,(Go.sizeOf 3).run P w= .ok 1 w:=L.z3
 have v3: ∀w,(zeroValue 3).run P w= .ok (.int .i64 0) w:=L.v3
 have u22:=i8 t22
 have M:Hid (∀x,(enc x).length=k):=hk
 have H1:Hid (∀x,∀v∈enc x,v.oneCell'=true):=h1
 have HC:Hid (CmpLays P g cb enc k G blk B N w0):=ar
 have az:Hid (∀n (d:Array α) E,d.size=N→HoldsK enc k (sortWorldK enc k w0 blk B n d E) blk B d):=fun n d E W=>ip enc k w0 blk B d0 d n E hH au (by omega)
 have ag:Hid (∀n (d:Array α) E q D,grow ((sortWorldK enc k w0 blk B n d E).drewN q) D=sortWorldK enc k w0 blk B (n+q) d (E++D)):=fun n d E q D=>lY enc k w0 blk B n q d E D
 have ay:Hid (∀n (d:Array α) E x,d.size=N→x<N→ ∀q D,Sem.run P (loadCellsFrom ⟨blk,B+x*k,none⟩ 0 k #[]) (grow ((sortWorldK enc k w0 blk B n d E).drewN q) D)= .ok (enc d[x]!).toArray (grow ((sortWorldK enc k w0 blk B n d E).drewN q) D)):=fun n d E x W hx q D=>by
  rw[ag.out];exact gH P _ _ _ k (M.out _) (jg (az.out _ d _ W) M.out (by omega))
 have aM:Hid (∀n (d:Array α) E x y,d.size=N→ ∀q D,Calls P g (#[.agg (enc x).toArray,.agg (enc y).toArray]++cb) (grow ((sortWorldK enc k w0 blk B n d E).drewN q) D) fun e w'=>e= .returned (.int .i64 (G x y))∧ ∃q' aA,w'=grow ((grow ((sortWorldK enc k w0 blk B n d E).drewN q) D).drewN q') aA):=fun n d E x y W q D=>by
  rw[ag.out];exact HC.out _ _ d W x y
 have af:Hid (SortedIn (ltOf G) m b d):=ao
 have Y:Hid (SWO (ltOf G)):=hO
 clear hk h1 ar hH ao hO
 have aN:IntKind.i64.wrap ((m:Int)-(a:Int))=1:=by rw[es];omega
 have aL:Hid (m=a+1):=ap
 have aR:a+1≤m:=by omega
 have a6:(0:Int)≤(a:Int):=by omega
 have aZ:(a:Int)<(N:Int):=by omega
 clear ap
 go_enter FG,Tryz.ntmps176
 go_wp2
 go_loopw[10,11] (fun v u wr=> ∃(i j I:Nat) (D:Array Obj),v= .int .i64 i∧u= .int .i64 j∧m≤i∧i≤j∧j≤b∧wr=sortWorldK enc k w0 blk B I d D∧Hid ((∀t,m≤t→t<i→ltOf G d[t]! d[a]! =true)∧(∀t,j≤t→t<b→ltOf G d[t]! d[a]! =false))) (fun v u _=>(intOf u-intOf v).toNat)
 case atStart=>exact⟨m,b,n,E,rfl,rfl,dQ _,by omega,dQ _,rfl,fun t h1 h2=>by omega,fun t h1 h2=>by omega⟩
 case round=>
  obtain⟨i,j,I,D,rfl,rfl,aF,aU,aq,rfl,HI⟩:=hrel
  by_cases aT:i<j
  ·have aG:(i:Int)<(j:Int):=by omega
   have aX:(i+j)/2<N:=by omega
   have aY:(0:Int)≤((i:Int)+(j:Int))/2:=by omega
   have aW:((i:Int)+(j:Int))/2<(N:Int):=by omega
   have aV:(((i:Int)+(j:Int))/2).toNat=(i+j)/2:=by omega
   obtain⟨xh,ad⟩: ∃x,d[(i+j)/2]! =x:=⟨_,rfl⟩
   obtain⟨O,V⟩: ∃x,d[a]! =x:=⟨_,rfl⟩
   have ai:=ay.out I d D ((i+j)/2) (by omega) (by omega)
   have aj:=ay.out I d D (a) (by omega) (by omega)
   rw[ad]at ai
   rw[V]at aj
   have ae:=aM.out I d D xh O (by omega)
   have ah:=dM (ag.out I d D)
   have aw:=dM ad
   have ax:=dM V
   clear ad V
   generalize sortWorldK enc k w0 blk B I d D=Q at ai aj ae ah⊢
   by_cases aS:G xh O<0
   ·go_wp2_with fail
    go_quiet_grown (first|(go_at_fn g;refine kj (ae _ _)))
    go_wp2_with fail
    go_roundw
    case rel=>
     refine⟨(i+j)/2+1,j,I+nq,D++osq,by first|(congr 1;omega)|congr 1,rfl,by omega,by omega,aq,ah.out nq osq,fun t h1 h2=> ?_,HI.out.2⟩
     have e:=SWO.le Y.out af.out (i:=t) (j:=(i+j)/2) h1 (by omega) (by omega)
     have e2:ltOf G d[(i+j)/2]! d[a]! =true:=by rw[aw.out,ax.out];exact ec (by omega)
     exact SWO.less_down2 Y.out e e2
    case measure=>simp[intOf];omega
   ·go_wp2_with fail
    go_quiet_grown (first|(go_at_fn g;refine kj (ae _ _)))
    go_wp2_with fail
    go_roundw
    case rel=>
     refine⟨i,(i+j)/2,I+nq,D++osq,rfl,by first|(congr 1;omega)|congr 1,aF,by omega,by omega,ah.out nq osq,HI.out.1,fun t h1 h2=> ?_⟩
     have e:=SWO.le Y.out af.out (i:=(i+j)/2) (j:=t) (by omega) h1 h2
     have e2:ltOf G d[(i+j)/2]! d[a]! =false:=by rw[aw.out,ax.out];exact dT (by omega)
     exact Y.out.ntrans _ _ _ e e2
    case measure=>simp[intOf];omega
  ·obtain rfl:i=j:=by omega
   have aG: ¬(i:Int)<(i:Int):=by omega
   have wi:IntKind.i64.wrap ((i:Int)-1)=(i:Int)-1:=by rw[es];omega
   go_wp2
   go_loopw[13] (fun v wr=> ∃(x U:Nat) (F:Array α) (R:Array Obj),v= .int .i64 x∧a≤x∧x+1≤i∧F.size=N∧wr=sortWorldK enc k w0 blk B U F R∧Hid (Rot d F a (a+1) (x+1)∧PermIn a b d F)) (fun v _=>i-(intOf v).toNat)
   case atStart=>exact⟨a,I,d,D,rfl,dQ _,by omega,W,rfl,Rot.self_up d a,permIn_refl _ _ _⟩
   case round=>
    obtain⟨x,U,F,R,rfl,aI,aO,aH,rfl,HR⟩:=hrel
    by_cases hx:x+1<i
    ·have aB:(x:Int)<(i:Int)-1:=by omega
     have p0:(0:Int)≤(x:Int):=by omega
     have pz:(x:Int)<(N:Int):=by omega
     have q0:(0:Int)≤(x:Int)+1:=by omega
     have qz:(x:Int)+1<(N:Int):=by omega
     have e0:((x:Int)+1).toNat=x+1:=by omega
     obtain⟨O,V⟩: ∃z_,F[x]! =z_:=⟨_,rfl⟩
     obtain⟨xb,ak⟩: ∃z_,F[x+1]! =z_:=⟨_,rfl⟩
     have X:HoldsK enc k (sortWorldK enc k w0 blk B U F R).drew blk B F:=az.out _ F _ (by omega)
     generalize am:sortWorldK enc k w0 blk B U F R=Q at X⊢
     have aK:=dM am
     have ab: ∀x,x<F.size→x*k+k≤F.size*k:=fun x hx=>by
      have:=iX k (show x+1≤F.size from hx);rwa [lu,me]at this
     have la:Sem.run P (loadCellsFrom ⟨blk,B+(x)*k,none⟩ 0 k #[]) Q.drew= .ok (enc O).toArray Q.drew:=by rw[←V];exact gH P _ _ _ k (M.out _) (jg X M.out (by omega))
     have lb:Sem.run P (loadCellsFrom ⟨blk,B+(x+1)*k,none⟩ 0 k #[]) Q.drew= .ok (enc xb).toArray Q.drew:=by rw[←ak];exact gH P _ _ _ k (M.out _) (jg X M.out (by omega))
     have s1:Sem.run P (storeCells ⟨blk,B+(x)*k,none⟩ (enc xb) 0) Q.drew= .ok () (Q.drew.setCells blk (B+(x)*k) (enc xb)):=j1 P X ((x)*k) _ (by rw[M.out,size_flatK];exact ab (x) (by omega)) (H1.out _)
     have s2:Sem.run P (storeCells ⟨blk,B+(x+1)*k,none⟩ (enc O) 0) (Q.drew.setCells blk (B+(x)*k) (enc xb))= .ok () ((Q.drew.setCells blk (B+(x)*k) (enc xb)).setCells blk (B+(x+1)*k) (enc O)):=
      j1 P (mv X ((x)*k) _ (by rw[M.out,size_flatK];exact ab (x) (by omega))) ((x+1)*k) _ (by rw[M.out,size_setMany,size_flatK];exact ab (x+1) (by omega)) (H1.out _)
     have aD:(enc O).length=k:=M.out _
     have aC:(enc xb).length=k:=M.out _
     clear am X ab
     obtain⟨cA,aa⟩: ∃c,c=enc O:=⟨_,rfl⟩
     obtain⟨cB,Z⟩: ∃c,c=enc xb:=⟨_,rfl⟩
     rw[←Z]at s1 lb aC
     rw[←aa]at la aD
     rw[←aa,←Z]at s2
     have CC:Hid (cA=enc O∧cB=enc xb):=⟨aa,Z⟩
     clear aa Z
     go_wp2_with fail
     go_big_region_o
     all_goals go_wp2
     refine⟨⟨x+1,U+1,swp F x (x+1),R,by go_num,by omega,by omega,by rw[size_swp];exact aH,?_,(show Hid _ from ?_)⟩,by simp[intOf];omega⟩
     ·rw[CC.out.1,CC.out.2,←V,←ak,←aK.out]
      exact mq enc k w0 blk B M.out U F R au x (x+1) (by omega) (by omega)
     ·exact⟨HR.out.1.up aI (by omega),permIn_trans _ _ _ _ _ HR.out.2 (swp_permIn F a b x (x+1) (by omega) (by omega) (by omega) (by omega) (by omega))⟩
    ·have aB: ¬(x:Int)<(i:Int)-1:=by omega
     go_wp2
     (try simp only[Exit.inBlock,Exit.then]);refine dW (kY rfl _ _ _) rfl ?_
     obtain rfl:i=x+1:=by omega
     have hm:=aL.out
     refine⟨rfl,U,R,F,rfl,HR.out.2,Gt Y.out (by omega) aq (by rw[←hm];exact af.out) (by rw[←hm];exact HI.out.1) HI.out.2 HR.out.1⟩
theorem tI {P:Program} {α:Type} [Inhabited α] (L:SlLaysF0.n20 P Tryz.insertM_ren) (FG:P.funcs[176]? =some Tryz.f176) (tU:P.underlying 111=some (.int .u64)) (k:Nat) (aE: ∀w,(isAgg 133).run P w= .ok true w) (zE: ∀w,(Go.sizeOf 133).run P w= .ok k w)
  (enc:α→List Value) (hk: ∀x,(enc x).length=k) (h1: ∀x,∀v∈enc x,v.oneCell'=true) (G:α→α→Int) (hO:SWO (ltOf G)) (g:Nat) (cb:Array Value) (eg: ∀args w,(callFunc g args).run P w= .ok (.enter g args) w) (blk B aM N:Nat) (w0:World) (d0:Array α) (hN:d0.size=N) (hH:HoldsK enc k w0 blk B d0) (ax:blk<w0.heap.size) (aV:N<1152921504606846976) (av:CmpLays P g cb enc k G blk B N w0)
  (a m b n:Nat) (d:Array α) (E:Array Obj) (bb:a+1<m) (aw:b=m+1) (hb:b≤N) (V:d.size=N) (aq:SortedIn (ltOf G) a m d):
  Calls P 176 #[.slice (some ⟨blk,B,none⟩) N aM,.int .i64 a,.int .i64 m,.int .i64 b,.func (.func g) #[] cb] (sortWorldK enc k w0 blk B n d E) fun e w'=>e= .returned (.tuple #[])∧ ∃I D d',w'=sortWorldK enc k w0 blk B I d' D∧PermIn a b d d'∧SortedIn (ltOf G) a b d':=by
 have mixed:=L.mixed
 have t22:P.underlying 174=some (.slice 133):=L.t22
 have a22: ∀w,(isAgg 174).run P w= .ok false w:=L.a22
 have z22: ∀w,(Go.sizeOf 174).run P w= .ok 1 w:=L.z22
 have v22: ∀w,(zeroValue 174).run P w= .ok (Value.slice none 0 0) w:=L.v22
 have t3:P.underlying 3=some (.int .i64):=L.t3
 have a3: ∀w,(isAgg 3).run P w= .ok false w:=L.a3
 have z3: ∀w,(Go.sizeOf 3).run P w= .ok 1 w:=L.z3
 have v3: ∀w,(zeroValue 3).run P w= .ok (.int .i64 0) w:=L.v3
 have u22:=i8 t22
 have M:Hid (∀x,(enc x).length=k):=hk
 have H1:Hid (∀x,∀v∈enc x,v.oneCell'=true):=h1
 have HC:Hid (CmpLays P g cb enc k G blk B N w0):=av
 have aD:Hid (∀n (d:Array α) E,d.size=N→HoldsK enc k (sortWorldK enc k w0 blk B n d E) blk B d):=fun n d E V=>ip enc k w0 blk B d0 d n E hH ax (by omega)
 have ah:Hid (∀n (d:Array α) E q D,grow ((sortWorldK enc k w0 blk B n d E).drewN q) D=sortWorldK enc k w0 blk B (n+q) d (E++D)):=fun n d E q D=>lY enc k w0 blk B n q d E D
 have aC:Hid (∀n (d:Array α) E x,d.size=N→x<N→ ∀q D,Sem.run P (loadCellsFrom ⟨blk,B+x*k,none⟩ 0 k #[]) (grow ((sortWorldK enc k w0 blk B n d E).drewN q) D)= .ok (enc d[x]!).toArray (grow ((sortWorldK enc k w0 blk B n d E).drewN q) D)):=fun n d E x V hx q D=>by
  rw[ah.out];exact gH P _ _ _ k (M.out _) (jg (aD.out _ d _ V) M.out (by omega))
 have aO:Hid (∀n (d:Array α) E x y,d.size=N→ ∀q D,Calls P g (#[.agg (enc x).toArray,.agg (enc y).toArray]++cb) (grow ((sortWorldK enc k w0 blk B n d E).drewN q) D) fun e w'=>e= .returned (.int .i64 (G x y))∧ ∃q' aF,w'=grow ((grow ((sortWorldK enc k w0 blk B n d E).drewN q) D).drewN q') aF):=fun n d E x y V q D=>by
  rw[ah.out];exact HC.out _ _ d V x y
 have ag:Hid (SortedIn (ltOf G) a m d):=aq
 have Y:Hid (SWO (ltOf G)):=hO
 clear hk h1 av hH aq hO
 have aS:IntKind.i64.wrap ((m:Int)-(a:Int))=(m:Int)-(a:Int):=by rw[es];omega
 have aR:(((m:Int)-(a:Int))==1)=false:=by rw[dY];omega
 have aQ: ¬((m:Int)-(a:Int)=1):=by omega
 have aT:IntKind.i64.wrap ((b:Int)-(m:Int))=1:=by rw[es];omega
 have aP:Hid (b=m+1):=aw
 have ba:m<b:=by omega
 have bd:(0:Int)≤(m:Int):=by omega
 have bc:(m:Int)<(N:Int):=by omega
 clear aw
 go_enter FG,Tryz.ntmps176
 go_wp2
 go_loopw[14,15] (fun v u wr=> ∃(i j I:Nat) (D:Array Obj),v= .int .i64 i∧u= .int .i64 j∧a≤i∧i≤j∧j≤m∧wr=sortWorldK enc k w0 blk B I d D∧Hid ((∀t,a≤t→t<i→ltOf G d[m]! d[t]! =false)∧(∀t,j≤t→t<m→ltOf G d[m]! d[t]! =true))) (fun v u _=>(intOf u-intOf v).toNat)
 case atStart=>exact⟨a,m,n,E,rfl,rfl,dQ _,by omega,dQ _,rfl,fun t h1 h2=>by omega,fun t h1 h2=>by omega⟩
 case round=>
  obtain⟨i,j,I,D,rfl,rfl,ay,aY,au,rfl,HI⟩:=hrel
  by_cases aW:i<j
  ·have aJ:(i:Int)<(j:Int):=by omega
   have a7:(i+j)/2<N:=by omega
   have a8:(0:Int)≤((i:Int)+(j:Int))/2:=by omega
   have a6:((i:Int)+(j:Int))/2<(N:Int):=by omega
   have aZ:(((i:Int)+(j:Int))/2).toNat=(i+j)/2:=by omega
   obtain⟨Z,X⟩: ∃x,d[m]! =x:=⟨_,rfl⟩
   obtain⟨xh,ae⟩: ∃x,d[(i+j)/2]! =x:=⟨_,rfl⟩
   have aj:=aC.out I d D (m) (by omega) (by omega)
   have ak:=aC.out I d D ((i+j)/2) (by omega) (by omega)
   rw[X]at aj
   rw[ae]at ak
   have af:=aO.out I d D Z xh (by omega)
   have ai:=dM (ah.out I d D)
   have aA:=dM X
   have aB:=dM ae
   clear X ae
   generalize sortWorldK enc k w0 blk B I d D=O at aj ak af ai⊢
   by_cases ar:G Z xh<0
   ·have aK:decide (G Z xh<0)=true:=ec ar
    go_wp2_with fail
    go_quiet_grown (first|(go_at_fn g;refine kj (af _ _)))
    go_wp2_with fail
    go_roundw
    case rel=>
     refine⟨i,(i+j)/2,I+nq,D++osq,rfl,by first|(congr 1;omega)|congr 1,ay,by omega,by omega,ai.out nq osq,HI.out.1,fun t h1 h2=> ?_⟩
     have e:=SWO.le Y.out ag.out (i:=(i+j)/2) (j:=t) (by omega) h1 h2
     have e2:ltOf G d[m]! d[(i+j)/2]! =true:=by rw[aB.out,aA.out];exact ec (by omega)
     exact SWO.less_up Y.out e e2
    case measure=>simp[intOf];omega
   ·have aK:decide (G Z xh<0)=false:=dT ar
    go_wp2_with fail
    go_quiet_grown (first|(go_at_fn g;refine kj (af _ _)))
    go_wp2_with fail
    go_roundw
    case rel=>
     refine⟨(i+j)/2+1,j,I+nq,D++osq,by first|(congr 1;omega)|congr 1,rfl,by omega,by omega,au,ai.out nq osq,fun t h1 h2=> ?_,HI.out.2⟩
     have e:=SWO.le Y.out ag.out (i:=t) (j:=(i+j)/2) h1 (by omega) (by omega)
     have e2:ltOf G d[m]! d[(i+j)/2]! =false:=by rw[aB.out,aA.out];exact dT (by omega)
     exact Y.out.ntrans _ _ _ e2 e
    case measure=>simp[intOf];omega
  ·obtain rfl:i=j:=by omega
   have aJ: ¬(i:Int)<(i:Int):=by omega
   go_wp2
   go_loopw[17] (fun v wr=> ∃(x R:Nat) (F:Array α) (Q:Array Obj),v= .int .i64 x∧i≤x∧x≤m∧F.size=N∧wr=sortWorldK enc k w0 blk B R F Q∧Hid (Rot d F x m (m+1)∧PermIn a b d F)) (fun v _=>(intOf v).toNat)
   case atStart=>exact⟨m,I,d,D,rfl,by omega,dQ _,V,rfl,Rot.self_down d m,permIn_refl _ _ _⟩
   case round=>
    obtain⟨x,R,F,Q,rfl,aX,X,aL,rfl,HR⟩:=hrel
    by_cases hx:i<x
    ·obtain⟨y,rfl⟩: ∃y,x=y+1:=⟨x-1,by omega⟩
     have aG:(i:Int)<(y:Int)+1:=by omega
     have aU:IntKind.i64.wrap (y:Int)=(y:Int):=by rw[es];omega
     have p0:(0:Int)≤(y:Int):=by omega
     have pz:(y:Int)<(N:Int):=by omega
     have q0:(0:Int)≤(y:Int)+1:=by omega
     have qz:(y:Int)+1<(N:Int):=by omega
     have e0:((y:Int)+1).toNat=y+1:=by omega
     obtain⟨U,ao⟩: ∃z_,F[y+1]! =z_:=⟨_,rfl⟩
     obtain⟨xb,am⟩: ∃z_,F[y]! =z_:=⟨_,rfl⟩
     have W:HoldsK enc k (sortWorldK enc k w0 blk B R F Q).drew blk B F:=aD.out _ F _ (by omega)
     generalize ap:sortWorldK enc k w0 blk B R F Q=O at W⊢
     have aN:=dM ap
     have ad: ∀x,x<F.size→x*k+k≤F.size*k:=fun x hx=>by
      have:=iX k (show x+1≤F.size from hx);rwa [lu,me]at this
     have la:Sem.run P (loadCellsFrom ⟨blk,B+(y+1)*k,none⟩ 0 k #[]) O.drew= .ok (enc U).toArray O.drew:=by rw[←ao];exact gH P _ _ _ k (M.out _) (jg W M.out (by omega))
     have lb:Sem.run P (loadCellsFrom ⟨blk,B+(y)*k,none⟩ 0 k #[]) O.drew= .ok (enc xb).toArray O.drew:=by rw[←am];exact gH P _ _ _ k (M.out _) (jg W M.out (by omega))
     have s1:Sem.run P (storeCells ⟨blk,B+(y+1)*k,none⟩ (enc xb) 0) O.drew= .ok () (O.drew.setCells blk (B+(y+1)*k) (enc xb)):=j1 P W ((y+1)*k) _ (by rw[M.out,size_flatK];exact ad (y+1) (by omega)) (H1.out _)
     have s2:Sem.run P (storeCells ⟨blk,B+(y)*k,none⟩ (enc U) 0) (O.drew.setCells blk (B+(y+1)*k) (enc xb))= .ok () ((O.drew.setCells blk (B+(y+1)*k) (enc xb)).setCells blk (B+(y)*k) (enc U)):=
      j1 P (mv W ((y+1)*k) _ (by rw[M.out,size_flatK];exact ad (y+1) (by omega))) ((y)*k) _ (by rw[M.out,size_setMany,size_flatK];exact ad (y) (by omega)) (H1.out _)
     have aI:(enc U).length=k:=M.out _
     have aH:(enc xb).length=k:=M.out _
     clear ap W ad
     obtain⟨cA,ab⟩: ∃c,c=enc U:=⟨_,rfl⟩
     obtain⟨cB,aa⟩: ∃c,c=enc xb:=⟨_,rfl⟩
     rw[←aa]at s1 lb aH
     rw[←ab]at la aI
     rw[←ab,←aa]at s2
     have CC:Hid (cA=enc U∧cB=enc xb):=⟨ab,aa⟩
     clear ab aa
     go_wp2_with fail
     go_big_region_o
     all_goals go_wp2
     refine⟨⟨y,R+1,swp F (y+1) y,Q,by first|rfl|go_num|(congr 1;omega),by omega,by omega,by rw[size_swp];exact aL,?_,(show Hid _ from ?_)⟩,by simp[intOf]⟩
     ·rw[CC.out.1,CC.out.2,←ao,←am,←aN.out]
      exact mq enc k w0 blk B M.out R F Q ax (y+1) y (by omega) (by omega)
     ·have:=HR.out.1.down (by omega) X (by omega)
      rw[jr]at this
      exact⟨this,permIn_trans _ _ _ _ _ HR.out.2 (swp_permIn F a b (y+1) y (by omega) (by omega) (by omega) (by omega) (by omega))⟩
    ·have aG: ¬(i:Int)<(x:Int):=by omega
     go_wp2
     (try simp only[Exit.inBlock,Exit.then]);refine dW (kY rfl _ _ _) rfl ?_
     obtain rfl:i=x:=by omega
     have hm:=aP.out
     refine⟨rfl,R,Q,F,rfl,HR.out.2,by rw[hm];exact CK Y.out ay au ag.out HI.out.1 HI.out.2 HR.out.1⟩
theorem rJ {P:Program} {α:Type} [Inhabited α] (L:SlLaysF0.n20 P Tryz.insertM_ren) (FG:P.funcs[176]? =some Tryz.f176) (tU:P.underlying 111=some (.int .u64)) (k:Nat) (aE: ∀w,(isAgg 133).run P w= .ok true w) (zE: ∀w,(Go.sizeOf 133).run P w= .ok k w)
  (enc:α→List Value) (hk: ∀x,(enc x).length=k) (h1: ∀x,∀v∈enc x,v.oneCell'=true) (G:α→α→Int) (hO:SWO (ltOf G)) (g:Nat) (cb:Array Value) (eg: ∀args w,(callFunc g args).run P w= .ok (.enter g args) w) (blk E ai N:Nat) (w0:World) (d0:Array α) (hN:d0.size=N) (hH:HoldsK enc k w0 blk E d0) (ax:blk<w0.heap.size) (aH:N<1152921504606846976) (ah:CmpLays P g cb enc k G blk E N w0) (bG: ∀args w,(callFunc 198 args).run P w= .ok (.enter 198 args) w) (bF: ∀args w,(callFunc 176 args).run P w= .ok (.enter 176 args) w)
  (aI: ∀(a m b n:Nat) (d:Array α) (F:Array Obj),d.size=N→a<m→m<b→b≤N→Calls P 198 #[.slice (some ⟨blk,E,none⟩) N ai,.int .i64 a,.int .i64 m,.int .i64 b,.func (.func g) #[] cb] (sortWorldK enc k w0 blk E n d F) fun e w'=>e= .returned (.tuple #[])∧ ∃M D d',w'=sortWorldK enc k w0 blk E M d' D∧Rot d d' a m b∧PermIn a b d d'):
  ∀(f a m b n:Nat) (d:Array α) (F:Array Obj),b-a<f→a<m→m<b→b≤N→d.size=N→SortedIn (ltOf G) a m d→SortedIn (ltOf G) m b d→
  Calls P 176 #[.slice (some ⟨blk,E,none⟩) N ai,.int .i64 a,.int .i64 m,.int .i64 b,.func (.func g) #[] cb] (sortWorldK enc k w0 blk E n d F) fun e w'=>e= .returned (.tuple #[])∧ ∃M D d',w'=sortWorldK enc k w0 blk E M d' D∧PermIn a b d d'∧SortedIn (ltOf G) a b d':=by
 intro f
 induction f with
 |zero=>intro a m b n d F h;exact absurd h (gU _)
 |succ f ih=>
  intro a m b n d F hf bd aL hb W aq ap
  by_cases c1:m=a+1
  ·exact zV L FG tU k aE zE enc hk h1 G hO g cb eg blk E ai N w0 d0 hN hH ax aH ah a m b n d F c1 aL hb W ap
  by_cases c2:b=m+1
  ·exact tI L FG tU k aE zE enc hk h1 G hO g cb eg blk E ai N w0 d0 hN hH ax aH ah a m b n d F (by omega) c2 hb W aq
  have mixed:=L.mixed
  have t22:P.underlying 174=some (.slice 133):=L.t22
  have a22: ∀w,(isAgg 174).run P w= .ok false w:=L.a22
  have z22: ∀w,(Go.sizeOf 174).run P w= .ok 1 w:=L.z22
  have v22: ∀w,(zeroValue 174).run P w= .ok (Value.slice none 0 0) w:=L.v22
  have t3:P.underlying 3=some (.int .i64):=L.t3
  have a3: ∀w,(isAgg 3).run P w= .ok false w:=L.a3
  have z3: ∀w,(Go.sizeOf 3).run P w= .ok 1 w:=L.z3
  have v3: ∀w,(zeroValue 3).run P w= .ok (.int .i64 0) w:=L.v3
  have u22:=i8 t22
  have HK:Hid (∀x,(enc x).length=k):=hk
  have H1:Hid (∀x,∀v∈enc x,v.oneCell'=true):=h1
  have HC:Hid (CmpLays P g cb enc k G blk E N w0):=ah
  have bg:Hid (∀n (d:Array α) F,d.size=N→HoldsK enc k (sortWorldK enc k w0 blk E n d F) blk E d):=fun n d F W=>ip enc k w0 blk E d0 d n F hH ax (by omega)
  have aB:Hid (∀n (d:Array α) F q D,grow ((sortWorldK enc k w0 blk E n d F).drewN q) D=sortWorldK enc k w0 blk E (n+q) d (F++D)):=fun n d F q D=>lY enc k w0 blk E n q d F D
  have aU:Hid (∀n (d:Array α) F x,d.size=N→x<N→ ∀q D,Sem.run P (loadCellsFrom ⟨blk,E+x*k,none⟩ 0 k #[]) (grow ((sortWorldK enc k w0 blk E n d F).drewN q) D)= .ok (enc d[x]!).toArray (grow ((sortWorldK enc k w0 blk E n d F).drewN q) D)):=fun n d F x W hx q D=>by
   rw[aB.out];exact gH P _ _ _ k (HK.out _) (jg (bg.out _ d _ W) HK.out (by omega))
  have bh:Hid (∀n (d:Array α) F x y,d.size=N→ ∀q D,Calls P g (#[.agg (enc x).toArray,.agg (enc y).toArray]++cb) (grow ((sortWorldK enc k w0 blk E n d F).drewN q) D) fun e w'=>e= .returned (.int .i64 (G x y))∧ ∃q' aW,w'=grow ((grow ((sortWorldK enc k w0 blk E n d F).drewN q) D).drewN q') aW):=fun n d F x y W q D=>by
   rw[aB.out];exact HC.out _ _ d W x y
  have az:Hid (SortedIn (ltOf G) a m d):=aq
  have ay:Hid (SortedIn (ltOf G) m b d):=ap
  have HO:Hid (SWO (ltOf G)):=hO
  have bf:=dM aI
  have IH:=dM ih
  clear hk h1 ah hH aq ap hO aI ih
  have bq:IntKind.i64.wrap ((m:Int)-(a:Int))=(m:Int)-(a:Int):=by rw[es];omega
  have bo:(((m:Int)-(a:Int))==1)=false:=by rw[dY];omega
  have bn: ¬((m:Int)-(a:Int)=1):=by omega
  have br:IntKind.i64.wrap ((b:Int)-(m:Int))=(b:Int)-(m:Int):=by rw[es];omega
  have bm:(((b:Int)-(m:Int))==1)=false:=by rw[dY];omega
  have bl: ¬((b:Int)-(m:Int)=1):=by omega
  obtain⟨B,aK⟩: ∃x,x=(a+b)/2:=⟨_,rfl⟩
  have bz:((a:Int)+(b:Int))/2=(B:Int):=by omega
  have ae:Hid (B=(a+b)/2):=aK
  have bA:B<N:=by omega
  obtain⟨U,R,h0,bu⟩: ∃U R,((B<m∧U=B+m-b∧R=B)∨(m≤B∧U=a∧R=m))∧a≤U:=by
   by_cases h:B<m
   ·exact⟨_,_,.inl ⟨h,rfl,rfl⟩,by omega⟩
   ·exact⟨_,_,.inr ⟨by omega,rfl,rfl⟩,dQ _⟩
  have af:Hid ((B<m∧U=B+m-b∧R=B)∨(m≤B∧U=a∧R=m)):=h0
  have aY:U≤R:=by omega
  have bp:IntKind.i64.wrap ((B:Int)+(m:Int))=(B:Int)+(m:Int):=by rw[es];omega
  have bv:R≤m:=by omega
  have bw:R≤B:=by omega
  clear aK
  go_enter FG,Tryz.ntmps176
  go_upto_if 140 with fail
  go_cut[20,21]from 25 (fun v20 v21 X=>v20= .int .i64 (U:Int)∧v21= .int .i64 (R:Int)∧X=sortWorldK enc k w0 blk E n d F)
  case first=>
   rcases af.out with⟨x1,x2,x3⟩|⟨x1,x2,x3⟩
   ·have hz:(B:Int)<(m:Int):=by omega
    have bi:IntKind.i64.wrap ((B:Int)+(m:Int)-(b:Int))=(U:Int):=by rw[es];omega
    have ag:R=B:=x3
    clear h0 x1 x2 x3
    go_wp2_with fail
    go_meet
    case rel=>exact⟨rfl,by rw[ag],rfl⟩
   ·have hz: ¬(B:Int)<(m:Int):=by omega
    have ag:U=a∧R=m:=⟨x2,x3⟩
    clear h0 x1 x2 x3
    go_wp2_with fail
    go_meet
    case rel=>exact⟨by rw[ag.1],by rw[ag.2],rfl⟩
  case rest=>as_aux_lemma=>
   obtain⟨rfl,rfl,rfl⟩:=hcut
   clear h0
   have bk:IntKind.i64.wrap ((B:Int)+(m:Int)-1)=(B:Int)+(m:Int)-1:=by rw[es];omega
   go_wp2_with fail
   go_loopw[20,21] (fun v u wr=> ∃(s r M:Nat) (D:Array Obj),v= .int .i64 s∧u= .int .i64 r∧U≤s∧s≤r∧r≤R∧wr=sortWorldK enc k w0 blk E M d D∧Hid ((∀t,U≤t→t<s→ltOf G d[B+m-1-t]! d[t]! =false)∧(∀t,r≤t→t<R→ltOf G d[B+m-1-t]! d[t]! =true))) (fun v u _=>(intOf u-intOf v).toNat)
   case atStart=>exact⟨U,R,n,F,rfl,rfl,dQ _,aY,dQ _,rfl,fun t h1 h2=>by omega,fun t h1 h2=>by omega⟩
   case round=>
    obtain⟨s,r,M,D,rfl,rfl,ar,aX,au,rfl,HI⟩:=hrel
    by_cases a8:s<r
    ·have a7:(s:Int)<(r:Int):=by omega
     have bD:(s+r)/2<N:=by omega
     have bE:(0:Int)≤((s:Int)+(r:Int))/2:=by omega
     have bC:((s:Int)+(r:Int))/2<(N:Int):=by omega
     have bB:(((s:Int)+(r:Int))/2).toNat=(s+r)/2:=by omega
     obtain⟨pc,aJ⟩: ∃x,x=B+m-1-(s+r)/2:=⟨_,rfl⟩
     have aT:Hid (pc=B+m-1-(s+r)/2):=aJ
     have bx:pc<N:=by have:=ae.out;have:=af.out;omega
     have bt:(0:Int)≤(pc:Int):=by omega
     have bs:(pc:Int)<(N:Int):=by omega
     have bj:IntKind.i64.wrap ((B:Int)+(m:Int)-1-((s:Int)+(r:Int))/2)=(pc:Int):=by rw[es];omega
     clear aJ
     obtain⟨xp,am⟩: ∃x,d[pc]! =x:=⟨_,rfl⟩
     obtain⟨xh,ao⟩: ∃x,d[(s+r)/2]! =x:=⟨_,rfl⟩
     have aF:=aU.out M d D (pc) (by omega) (by omega)
     have aG:=aU.out M d D ((s+r)/2) (by omega) (by omega)
     rw[am]at aF
     rw[ao]at aG
     have aw:=bh.out M d D xp xh (by omega)
     have aD:=dM (aB.out M d D)
     have aQ:=dM am
     have aR:=dM ao
     clear am ao
     generalize sortWorldK enc k w0 blk E M d D=wq at aF aG aw aD⊢
     by_cases aM:G xp xh<0
     ·as_aux_lemma=>
       have ba:decide (G xp xh<0)=true:=ec aM
       go_wp2_with fail
       go_quiet_grown (first|(go_at_fn g;refine kj (aw _ _)))
       go_wp2_with fail
       go_roundw
       case rel=>
        refine⟨s,(s+r)/2,M+nq,D++osq,rfl,by first|(congr 1;omega)|congr 1,ar,by omega,by omega,aD.out nq osq,HI.out.1,fun t h1 h2=> ?_⟩
        have e2:ltOf G d[B+m-1-(s+r)/2]! d[(s+r)/2]! =true:=by rw[←aT.out,aQ.out,aR.out];exact ec (by omega)
        have hm:=ae.out
        have h0:=af.out
        exact tH HO.out az.out ay.out (h:=(s+r)/2) (by omega) h1 (by omega) (by omega) (by omega) e2
       case measure=>simp[intOf];omega
     ·as_aux_lemma=>
       have ba:decide (G xp xh<0)=false:=dT aM
       go_wp2_with fail
       go_quiet_grown (first|(go_at_fn g;refine kj (aw _ _)))
       go_wp2_with fail
       go_roundw
       case rel=>
        refine⟨(s+r)/2+1,r,M+nq,D++osq,by first|(congr 1;omega)|congr 1,rfl,by omega,by omega,au,aD.out nq osq,fun t h1 h2=> ?_,HI.out.2⟩
        have e2:ltOf G d[B+m-1-(s+r)/2]! d[(s+r)/2]! =false:=by rw[←aT.out,aQ.out,aR.out];exact dT (by omega)
        have hm:=ae.out
        have h0:=af.out
        exact tG HO.out az.out ay.out (h:=(s+r)/2) (by omega) (by omega) (by omega) (by omega) (by omega) e2
       case measure=>simp[intOf];omega
    ·obtain rfl:s=r:=by omega
     have a7: ¬(s:Int)<(s:Int):=by omega
     have aN:=zU HO.out (s:=s) bd aL ae.out af.out ar au HI.out.1 HI.out.2
     obtain⟨e,he⟩: ∃x,x=B+m-s:=⟨_,rfl⟩
     rw[←he]at aN
     obtain⟨f1,f2,f3,f4,f5,f6,f7,f8⟩:=aN
     have HF:Hid ((a<s→e<b→ltOf G d[e]! d[s-1]! =false)∧(s<m→m<e→ltOf G d[e-1]! d[s]! =true)):=⟨f7,f8⟩
     have we:IntKind.i64.wrap ((B:Int)+(m:Int)-(s:Int))=(e:Int):=by rw[es];omega
     have aZ:s+e=B+m:=by omega
     clear f7 f8 he ar au aX a8
     go_upto_region 39 with fail
     go_cut[185]from 25 (fun v X=>v= .bool (decide (s<m)&&decide (m<e))∧X=sortWorldK enc k w0 blk E M d D)
     case first=>
      by_cases I:s<m
      ·have z1:(s:Int)<(m:Int):=by omega
       by_cases Q:m<e
       ·have z2:(m:Int)<(e:Int):=by omega
        go_wp2_with fail
        go_meet
        case rel=>exact⟨by rw[ec I,ec Q];rfl,rfl⟩
       ·have z2: ¬(m:Int)<(e:Int):=by omega
        go_wp2_with fail
        go_meet
        case rel=>exact⟨by rw[ec I,dT Q];rfl,rfl⟩
      ·have z1: ¬(s:Int)<(m:Int):=by omega
       go_wp2_with fail
       go_meet
       case rel=>exact⟨by rw[dT I];rfl,rfl⟩
     case rest=>as_aux_lemma=>
      obtain⟨rfl,rfl⟩:=hcut
      go_upto_if 185 with fail
      go_cut[]from 25 (fun X=> ∃(n2:Nat) (V:Array α) (ab:Array Obj),X=sortWorldK enc k w0 blk E n2 V ab∧V.size=N∧Hid (Rot d V s m e∧PermIn a b d V))
      case first=>
       by_cases y:s<m∧m<e
       ·have hy:(decide (s<m)&&decide (m<e))=true:=by rw[ec y.1,ec y.2];rfl
        obtain⟨I,Q⟩:=y
        rw[hy]
        go_wp2_with(go_at_fn 198;(with_reducible refine(bf.out s m e M d D W I Q (by omega)).mono ?_);rintro e_ w' ⟨rfl,n2,ab,V,rfl,hr,Y⟩)
        go_meet
        case rel=>exact⟨n2,V,ab,rfl,by rw[Y.1];exact W,hr,permIn_mono _ _ _ _ _ _ f1 f5 (by omega) Y⟩
       ·have hy:(decide (s<m)&&decide (m<e))=false:=by
         by_cases I:s<m
         ·rw[dT (fun Q=>y ⟨I,Q⟩),kU]
         ·rw[dT I,iv]
        rw[hy]
        go_wp2_with fail
        go_meet
        case rel=>exact⟨M,d,D,rfl,W,Rot.none d f2 f4 (by omega),permIn_refl _ _ _⟩
      case rest=>as_aux_lemma=>
       obtain⟨n2,V,ab,rfl,av,aS⟩:=hcut
       have ad:=dM (B3 HO.out f1 f2 f4 f5 aZ az.out ay.out HF.out.1 HF.out.2 aS.out.1)
       have bc:a<B:=by have:=ae.out;omega
       have a6:B<b:=by have:=ae.out;omega
       go_upto_region 41 with fail
       go_cut[199]from 25 (fun v X=>v= .bool (decide (a<s)&&decide (s<B))∧X=sortWorldK enc k w0 blk E n2 V ab)
       case first=>
        by_cases I:a<s
        ·have z1:(a:Int)<(s:Int):=by omega
         by_cases Q:s<B
         ·have z2:(s:Int)<(B:Int):=by omega
          go_wp2_with fail
          go_meet
          case rel=>exact⟨by rw[ec I,ec Q];rfl,rfl⟩
         ·have z2: ¬(s:Int)<(B:Int):=by omega
          go_wp2_with fail
          go_meet
          case rel=>exact⟨by rw[ec I,dT Q];rfl,rfl⟩
        ·have z1: ¬(a:Int)<(s:Int):=by omega
         go_wp2_with fail
         go_meet
         case rel=>exact⟨by rw[dT I];rfl,rfl⟩
       case rest=>as_aux_lemma=>
        obtain⟨rfl,rfl⟩:=hcut
        go_upto_if 199 with fail
        go_cut[]from 25 (fun X=> ∃(n3:Nat) (O:Array α) (aa:Array Obj),X=sortWorldK enc k w0 blk E n3 O aa∧O.size=N∧Hid (PermIn a B V O∧SortedIn (ltOf G) a B O))
        case first=>
         by_cases y:a<s∧s<B
         ·have hy:(decide (a<s)&&decide (s<B))=true:=by rw[ec y.1,ec y.2];rfl
          obtain⟨I,Q⟩:=y
          rw[hy]
          go_wp2_with(go_at_fn 176;(with_reducible refine(IH.out a s B n2 V ab (by omega) I Q (by omega) av ad.out.1 ad.out.2.1).mono ?_);rintro e_ w' ⟨rfl,n3,aa,O,rfl,Y,hs⟩)
          go_meet
          case rel=>exact⟨n3,O,aa,rfl,by rw[Y.1];exact av,Y,hs⟩
         ·have hy:(decide (a<s)&&decide (s<B))=false:=by
           by_cases I:a<s
           ·rw[dT (fun Q=>y ⟨I,Q⟩),kU]
           ·rw[dT I,iv]
          rw[hy]
          go_wp2_with fail
          go_meet
          case rel=>
           refine⟨n2,V,ab,rfl,av,permIn_refl _ _ _,?_⟩
           by_cases I:a<s
           ·have e1:s=B:=by omega
            rw[←e1];exact ad.out.1
           ·have e1:a=s:=by omega
            rw[e1];exact ad.out.2.1
        case rest=>as_aux_lemma=>
         obtain⟨n3,O,aa,rfl,bb,aA⟩:=hcut
         have ak: ∀i,B≤i→O[i]! =V[i]! :=fun i hi=>aA.out.1.2.1 i (.inr hi)
         have aj:Hid (SortedIn (ltOf G) B e O∧SortedIn (ltOf G) e b O):=⟨Kg ad.out.2.2.1 (fun i h1 _=>ak i h1),Kg ad.out.2.2.2.1 (fun i h1 _=>ak i (by omega))⟩
         have aO: ∀Z:Array α,PermIn B b O Z→SortedIn (ltOf G) B b Z→PermIn a b d Z∧SortedIn (ltOf G) a b Z:=fun Z Y hs=>by
          obtain⟨g1,g2⟩:=xF (Nat.le_of_lt bc) (Nat.le_of_lt a6) (by omega) ad.out.2.2.2.2 aA.out.1 aA.out.2 Y hs
          exact⟨permIn_trans _ _ _ _ _ aS.out.2 g1,g2⟩
         have aC:=dM aO
         clear aO ak
         go_upto_region 43 with fail
         by_cases I:B<e
         ·have z1:(B:Int)<(e:Int):=by omega
          by_cases Q:e<b
          ·have z2:(e:Int)<(b:Int):=by omega
           go_wp2_with(go_at_fn 176;(with_reducible refine(IH.out B e b n3 O aa (by omega) I Q hb bb aj.out.1 aj.out.2).mono ?_);rintro e_ w' ⟨rfl,n4,aV,Z,rfl,Y,hs⟩)
           go_end0
           exact⟨rfl,n4,aV,Z,rfl,aC.out Z Y hs⟩
          ·have z2: ¬(e:Int)<(b:Int):=by omega
           have e1:e=b:=by omega
           go_wp2_with fail
           go_end0
           exact⟨rfl,n3,aa,O,rfl,aC.out O (permIn_refl _ _ _) (by rw[←e1];exact aj.out.1)⟩
         ·have z1: ¬(B:Int)<(e:Int):=by omega
          have e1:B=e:=by omega
          go_wp2_with fail
          go_end0
          exact⟨rfl,n3,aa,O,rfl,aC.out O (permIn_refl _ _ _) (by rw[e1];exact aj.out.2)⟩
end Go.Proofs.YtceddodfddlncaaGreatDoor
namespace Go.Proofs.YtceddodfddlncaaGreatDoor
open Go Go.RowKit Go.Sort Tryz
theorem xg (blk Y a m b:Nat) (d:Array MT) (w:World) (V:HoldsK ni 6 w blk 0 d) (R:blk<w.heap.size) (ai:a<m) (ah:m<b) (hb:b≤d.size) (aa:d.size<4611686018427387904):
  Calls prog 198 #[.slice (some ⟨blk,0,none⟩) d.size Y,.int .i64 a,.int .i64 m,.int .i64 b,.func (.func 117) #[] #[]] w fun e w'=>
   e= .returned (.tuple #[])∧ ∃k D W,w'=sortWorldK ni 6 w blk 0 k W D∧Rot d W a m b∧PermIn a b d W:=by
 have Q:=KB m (b-a) (m-a) (b-m) d (by omega) (by omega) (by omega) (by omega) (by omega)
 rw[show m-(m-a)=a by omega,show m+(b-m)=b by omega]at Q
 have Z:=dM Q
 have O:=dM (fun(p q c k:Nat) (B:Array MT) (D:Array Obj) (L:B.size=d.size) (hp:p+c≤d.size) (hq:q+c≤d.size)=>by
  have:=NY blk Y p q c B (sortWorldK ni 6 w blk 0 k B D) (ip ni 6 w blk 0 d B k D V R L) (lt_sortWorldK ni 6 w blk 0 k B D R) (by omega) (by omega) (by omega)
  rw[L]at this
  exact this.mono (fun e w' (h:_∧_)=>show e= .returned (.tuple #[])∧ ∃G F,w'=sortWorldK ni 6 w blk 0 G (rL p q c 0 B) F by
   obtain⟨he,G,F,rfl⟩:=h
   exact⟨he,k+G,D++F,sortWorldK_on ni 6 w blk 0 k G _ _ D F R (Hd p q c 0 B)⟩))
 have af:Hid (w=sortWorldK ni 6 w blk 0 0 d #[]):=dM (by unfold sortWorldK;rw[grow_empty];exact(putRowK_self ni 6 w blk 0 d V).symm)
 obtain⟨N,U⟩:=yaa d.size
 have HN:=dM U
 rw[←U]at O hb aa⊢
 clear Q V U
 have w1:IntKind.i64.wrap ((m:Int)-(a:Int))=((m-a:Nat):Int):=by rw[es];omega
 have w2:IntKind.i64.wrap ((b:Int)-(m:Int))=((b-m:Nat):Int):=by rw[es];omega
 go_enter func198,ntmps198
 go_wp2
 go_loopw[10,11] (fun v u wr=> ∃(i j k f:Nat) (B:Array MT) (D:Array Obj),v= .int .i64 i∧u= .int .i64 j∧0<i∧0<j∧i≤m∧m+j≤N∧i+j≤f∧B.size=N∧wr=sortWorldK ni 6 w blk 0 k B D∧Hid (tW m f i j B=tW m (b-a) (m-a) (b-m) d)) (fun v u _=>(intOf v).toNat+(intOf u).toNat)
 case atStart=>exact⟨m-a,b-m,0,b-a,d,#[],rfl,rfl,by omega,by omega,by omega,by omega,by omega,HN.out.symm,af.out,rfl⟩
 case round=>
  obtain⟨i,j,k,f,B,D,rfl,rfl,i0,j0,ae,ad,hf,L,rfl,I⟩:=hrel
  obtain⟨M,rfl⟩: ∃M,f=M+1:=⟨f-1,by omega⟩
  have E:=I.out
  rw[tW]at E
  clear I
  have wm:IntKind.i64.wrap ((m:Int)-(i:Int))=((m-i:Nat):Int):=by rw[es];omega
  by_cases e:i=j
  ·subst e
   rw[dP rfl]at E
   have I:=dM E
   clear E
   go_wp2_with(go_at_call 214;refine(O.out (m-i) m i k B D L (by omega) (by omega)).mono ?_;rintro e w' ⟨rfl,G,F,rfl⟩)
   go_end0
   exact⟨rfl,G,F,_,rfl,by rw[I.out];exact Z.out.1,by rw[I.out];exact Z.out.2⟩
  ·rw[dN e]at E
   have ag: ¬(i:Int)=(j:Int):=by omega
   by_cases X:j<i
   ·rw[dP X]at E
    have I:=dM E
    clear E
    have ab:(j:Int)<(i:Int):=by omega
    have wi:IntKind.i64.wrap ((i:Int)-(j:Int))=((i-j:Nat):Int):=by rw[es];omega
    go_wp2_with(go_at_call 214;refine(O.out (m-i) m j k B D L (by omega) (by omega)).mono ?_;rintro e w' ⟨rfl,G,F,rfl⟩)
    go_roundw
    case rel=>exact⟨i-j,j,G,M,_,F,rfl,rfl,by omega,j0,by omega,ad,by omega,by rw[Hd];exact L,rfl,I.out⟩
    case measure=>simp[intOf];omega
   ·rw[dN X]at E
    have I:=dM E
    clear E
    have ab: ¬(j:Int)<(i:Int):=by omega
    have wi:IntKind.i64.wrap ((j:Int)-(i:Int))=((j-i:Nat):Int):=by rw[es];omega
    have wj:IntKind.i64.wrap ((m:Int)+(j:Int))=(m:Int)+(j:Int):=by rw[es];omega
    have wk:IntKind.i64.wrap ((m:Int)+(j:Int)-(i:Int))=((m+j-i:Nat):Int):=by rw[es];omega
    go_wp2_with(go_at_call 214;(with_reducible refine(O.out (m-i) (m+j-i) i k B D L (by omega) (by omega)).mono ?_);rintro e w' ⟨rfl,G,F,rfl⟩)
    go_roundw
    case rel=>exact⟨i,j-i,G,M,_,F,rfl,rfl,i0,by omega,ae,by omega,by omega,by rw[Hd];exact L,rfl,I.out⟩
    case measure=>simp[intOf];omega
theorem rK (blk O N:Nat) (w0:World) (G:Array MT) (Z:G.size=N) (V:HoldsK ni 6 w0 blk 0 G) (F:blk<w0.heap.size) (X:N<1152921504606846976) (a m b n:Nat) (d:Array MT) (q:Array Obj) (M:a<m) (I:m<b) (U:b≤N) (L:d.size=N) (h1:SortedIn (ltOf n_) a m d) (h2:SortedIn (ltOf n_) m b d):
  Calls Tryz.prog 176 #[.slice (some ⟨blk,0,none⟩) N O,.int .i64 a,.int .i64 m,.int .i64 b,.func (.func 117) #[] #[]] (sortWorldK ni 6 w0 blk 0 n d q) fun e w'=>
   e= .returned (.tuple #[])∧ ∃W E D,w'=sortWorldK ni 6 w0 blk 0 W D E∧PermIn a b d D∧SortedIn (ltOf n_) a b D:=
 rJ Tryz.insertM Tryz.func176 Tryz.underlying111 6 Tryz.isAgg133 Tryz.sizeOf133 ni (fun _=>rfl) Ko n_ tL 117 #[] L1 blk 0 O N w0 G Z V F X (vD _ _ _ _)
  (gJ Tryz.func198 (by kernel_rfl) rfl) (gJ Tryz.func176 (by kernel_rfl) rfl)
  (fun a m b n d q L M I U=>by
   have:=xg blk O a m b d (sortWorldK ni 6 w0 blk 0 n d q) (ip ni 6 w0 blk 0 G d n q V F (by omega)) (lt_sortWorldK ni 6 w0 blk 0 n d q F) M I (by omega) (by omega)
   rw[L]at this
   refine this.mono ?_
   rintro e w' ⟨rfl,Q,E,D,rfl,Y,R⟩
   exact⟨rfl,n+Q,q++E,D,sortWorldK_on ni 6 w0 blk 0 n Q _ _ q E F R.1,Y,R⟩)
  (b-a+1) a m b n d q (by omega) M I U L h1 h2
theorem B8 (n:Nat) (aH:n<576460752303423488):Hy n:=fun d blk ao w hn hH ae=>by
 have ar:=dM (fun(p e k:Nat) (D:Array MT) (F:Array Obj) (V:D.size=n) (am:p≤e) (he:e≤n)=>by
  have:=xT blk ao p e D (sortWorldK ni 6 w blk 0 k D F) (ip ni 6 w blk 0 d D k F hH ae (by omega)) (lt_sortWorldK ni 6 w blk 0 k D F ae) am (by omega) (by omega)
  rw[V]at this
  exact this.mono (R':=fun e_ w'=>e_= .returned (.tuple #[])∧ ∃Z Y d',w'=sortWorldK ni 6 w blk 0 Z d' Y∧PermIn p e D d'∧SortedIn (ltOf n_) p e d') (by
   rintro e_ w' ⟨rfl,Z,Y,rfl⟩
   have hs:=insertionSort_holds tL D p e am (by omega)
   exact⟨rfl,k+Z,F++Y,_,sortWorldK_on ni 6 w blk 0 k Z _ _ F Y ae hs.1.1,hs.1,hs.2⟩))
 have ap:=dM (rK blk ao n w d hn hH ae (by omega))
 have aF:Hid (w=sortWorldK ni 6 w blk 0 0 d #[]):=dM (by unfold sortWorldK;rw[grow_empty];exact(putRowK_self ni 6 w blk 0 d hH).symm)
 have HN:=dM hn
 clear hH hn
 go_enter func151,ntmps151
 go_wp2
 go_loopw[7,8] (fun v u wr=> ∃(p k:Nat) (D:Array MT) (F:Array Obj),v= .int .i64 p∧u= .int .i64 (p+20:Nat)∧p≤n∧D.size=n∧wr=sortWorldK ni 6 w blk 0 k D F∧Hid (PermIn 0 n d D∧BlkTo (ltOf n_) 20 D p)) (fun v _ _=>n-(intOf v).toNat)
 case atStart=>exact⟨0,0,d,#[],rfl,rfl,eN _,HN.out,aF.out,dM ⟨permIn_refl _ _ _,.zero⟩⟩
 case round=>
  obtain⟨p,k,D,F,rfl,rfl,hp,V,rfl,HI⟩:=hrel
  by_cases R:p+20≤n
  ·have hz:(p:Int)+20≤(n:Int):=by omega
   have ak:((p+20:Nat):Int)≤(n:Int):=by omega
   go_wp2_with(go_at_call 175;refine(ar.out p (p+20) k D F V (by omega) R).mono ?_;rintro e w' ⟨rfl,Z,Y,d',rfl,Q,ad⟩)
   go_roundw
   case rel=>
    refine⟨p+20,Z,d',Y,by first|rfl|go_num|(congr 1;omega),by first|rfl|go_num|(congr 1;omega),R,by rw[Q.1];exact V,rfl,dM ⟨permIn_trans _ _ _ _ _ HI.out.1 (permIn_mono _ _ _ _ _ _ (eN _) R (by omega) Q),.step p (HI.out.2.same fun i hi=>Q.2.1 i (.inl hi)) ad⟩⟩
   case measure=>simp[intOf];omega
  ·have hz: ¬(p:Int)+20≤(n:Int):=by omega
   have ak: ¬((p+20:Nat):Int)≤(n:Int):=by omega
   go_wp2_with(go_at_call 175;refine(ar.out p n k D F V hp (dQ _)).mono ?_;rintro e w' ⟨rfl,k1,ax,d1,rfl,Q,ad⟩)
   have aD:d1.size=n:=by rw[Q.1];exact V
   have HB:Hid (PermIn 0 n d d1∧BlkFrom (ltOf n_) 20 n d1 0):=dM ⟨permIn_trans _ _ _ _ _ HI.out.1 (permIn_mono _ _ _ _ _ _ (eN _) (dQ _) (by omega) Q),(HI.out.2.same fun i hi=>Q.2.1 i (.inl hi)).join hp (vI ad (by omega))⟩
   clear HI Q ad V hz ak R hp
   go_loopw[6,7,8] (fun v _ _ wr=> ∃(B k:Nat) (D:Array MT) (F:Array Obj),v= .int .i64 B∧0<B∧B≤2*n+20∧D.size=n∧wr=sortWorldK ni 6 w blk 0 k D F∧Hid (PermIn 0 n d D∧BlkFrom (ltOf n_) B n D 0)) (fun v _ _ _=>n-(intOf v).toNat)
   case atStart=>exact⟨20,k1,d1,ax,rfl,by omega,by omega,aD,rfl,HB⟩
   case round=>
    obtain⟨B,k2,d2,aj,rfl,aK,aI,aC,rfl,af⟩:=hrel
    by_cases aJ:B<n
    ·have aE:(B:Int)<(n:Int):=by omega
     have aw:IntKind.i64.wrap (2*(B:Int))=((2*B:Nat):Int):=by rw[es];omega
     have av:IntKind.i64.wrap ((B:Int)*2)=((2*B:Nat):Int):=by rw[es];omega
     go_wp2_with fail
     go_loopw[7,8] (fun v u wr=> ∃(p k3:Nat) (E:Array MT) (aa:Array Obj),v= .int .i64 p∧u= .int .i64 (p+2*B:Nat)∧p≤n∧E.size=n∧wr=sortWorldK ni 6 w blk 0 k3 E aa∧Hid (PermIn 0 n d E∧BlkTo (ltOf n_) (2*B) E p∧BlkFrom (ltOf n_) B n E p)) (fun v _ _=>n-(intOf v).toNat)
     case atStart=>exact⟨0,k2,d2,aj,rfl,by first|rfl|go_num|(congr 1;omega),eN _,aC,rfl,dM ⟨af.out.1,.zero,af.out.2⟩⟩
     case round=>
      obtain⟨p,k3,E,aa,rfl,rfl,hp,ab,rfl,X⟩:=hrel
      have au:IntKind.i64.wrap ((p:Int)+(B:Int))=((p+B:Nat):Int):=by rw[es];omega
      have ai:IntKind.i64.wrap (((p+2*B:Nat):Int)+((2*B:Nat):Int))=((p+2*B+2*B:Nat):Int):=by rw[es];omega
      obtain⟨q,U⟩:=yaa (p+2*B)
      obtain⟨m,N⟩:=yaa (p+B)
      obtain⟨c,W⟩:=yaa (2*B)
      obtain⟨z,hz⟩:=yaa (q+c)
      rw[←U]at ai⊢
      rw[←N]at au
      rw[←W]at aw av
      rw[←W,←hz]at ai
      have HQ:Hid (q=p+2*B∧m=p+B∧c=2*B∧z=q+c):=dM ⟨U,N,W,hz⟩
      by_cases R:q≤n
      ·have ay:(q:Int)≤(n:Int):=by omega
       have HM:Hid (∀q' z',q'=(q:Int)→z'=(z:Int)→True):=dM fun _ _ _ _=>trivial
       have L:=X.out.2.2.head (by omega)
       rw[fK (by omega)]at L
       have O:=L.2.head (by omega)
       rw[fK (by omega)]at O
       have HC:=dM (ap.out p m q k3 E aa (by omega) (by omega) R ab (by rw[N];exact L.1) (by rw[N,U,show p+2*B=p+B+B by omega];exact O.1))
       have HR:Hid (BlkFrom (ltOf n_) B n E q):=dM (by rw[U,show p+2*B=p+B+B by omega];exact O.2)
       clear L O U N W hz
       go_wp2_with(go_at_call 176;(with_reducible refine HC.out.mono ?_);rintro e w' ⟨rfl,k4,ag,I,rfl,G,M⟩)
       have hh:=HQ.out
       go_roundw
       case rel=>
        refine⟨q,k4,I,ag,rfl,by rw[show q+2*B=z by omega],R,by rw[G.1];exact ab,rfl,dM ⟨permIn_trans _ _ _ _ _ X.out.1 (permIn_mono _ _ _ _ _ _ (eN _) R (by omega) G),?_,HR.out.same fun i hi=>G.2.1 i (.inr hi)⟩⟩
        rw[show q=p+2*B by omega]at M G⊢
        exact .step p (X.out.2.1.same fun i hi=>G.2.1 i (.inl hi)) M
       case measure=>simp[intOf];omega
      ·have ay: ¬(q:Int)≤(n:Int):=by omega
       have ah: ∀(I:Array MT),PermIn p n E I→SortedIn (ltOf n_) p n I→PermIn 0 n d I∧BlkFrom (ltOf n_) c n I 0:=fun I G M=>by
        rw[W]
        exact⟨permIn_trans _ _ _ _ _ X.out.1 (permIn_mono _ _ _ _ _ _ (eN _) (dQ _) (by omega) G),(X.out.2.1.same fun i hi=>G.2.1 i (.inl hi)).join hp (vI M (by omega))⟩
       have aq:=dM ah
       by_cases aB:m<n
       ·have aA:(m:Int)<(n:Int):=by omega
        have L:=X.out.2.2.head (by omega)
        rw[fK (by omega)]at L
        have O:=L.2.head (by omega)
        rw[lg (by omega)]at O
        have HC:=dM (ap.out p m n k3 E aa (by omega) aB (dQ _) ab (by rw[N];exact L.1) (by rw[N];exact O.1))
        clear L O U N W hz ah
        go_wp2_with(go_at_call 176;(with_reducible refine HC.out.mono ?_);rintro e w' ⟨rfl,k4,ag,I,rfl,G,M⟩)
        have hh:=HQ.out
        go_roundw
        case rel=>exact⟨c,k4,I,ag,rfl,by omega,by omega,by rw[G.1];exact ab,rfl,dM (aq.out I G M)⟩
        case measure=>simp[intOf];omega
       ·have aA: ¬(m:Int)<(n:Int):=by omega
        have M:SortedIn (ltOf n_) p n E:=by
         by_cases az:p<n
         ·have:=(X.out.2.2.head az).1
          rwa [lg (by omega)]at this
         ·intro i j h1 h2 h3;omega
        have aG:=dM M
        clear U N W hz ah M
        go_wp2_with fail
        have hh:=HQ.out
        go_roundw
        case rel=>exact⟨c,k3,E,aa,rfl,by omega,by omega,ab,rfl,dM (aq.out E (permIn_refl _ _ _) aG.out)⟩
        case measure=>simp[intOf];omega
    ·have aE: ¬(B:Int)<(n:Int):=by omega
     go_wp2_with fail
     go_end0
     exact⟨rfl,k2,aj,d2,rfl,af.out.1,Fi af.out.2 (by omega)⟩
theorem zg (q:List (ByteArray×J)) (h:Bw q):DP q:=Gw q h (B8 _ (by have:=h.1;omega))
theorem Aw (A:Option Addr) (xs:List Int) (n c:Nat) (W:World) (E:xs.length=n) (D:n≤9223372036854775807) (q:Bytes xs) (G:Lies W A xs) (F:Marks W) (B:ErrTab W):
  Calls prog 64 #[.slice A n c] W (KH W (nN xs)):=Av zg A xs n c W E D q G F B
end Go.Proofs.YtceddodfddlncaaGreatDoor
