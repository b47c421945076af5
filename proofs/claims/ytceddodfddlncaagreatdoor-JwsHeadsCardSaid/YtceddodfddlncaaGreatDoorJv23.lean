
import Derived.Test.YtceddodfddlncaaGreatDoorJv20
import Derived.Test.YtceddodfddlncaaGreatDoorJv22
set_option maxRecDepth 100000
set_option maxHeartbeats 16000000
set_option linter.all false
namespace Go.Proofs.YtceddodfddlncaaGreatDoor
open Go Go.RowKit Tryz
def ly:=@List.dropLast_concat_getLast
def lK:=@func193
def mn:=@ntmps193
structure MC where
 nm:ByteArray
 a0:Value
 a1:Value
 a2:Value
 a3:Value
 a4:Value
instance:Inhabited MC:=⟨⟨⟨#[]⟩,.int .i64 0,.int .i64 0,.int .i64 0,.int .i64 0,.int .i64 0⟩⟩
def og (x:MC):List Value:=[.string x.nm,x.a0,x.a1,x.a2,x.a3,x.a4]
theorem Ao (t:ByteArray) (B:Nat) (w:World) (D:B<w.heap.size) (E:w.cell? ⟨B,0,none⟩=some (.string t)):
  PredBelow prog 208 #[.pointer (some ⟨B,0,none⟩)] (fun x=> .agg (og x).toArray) (fun x=>x.nm.toList==t.toList) w:=fun W x q=>by
 have G:W.cell? ⟨B,0,none⟩=some (.string t):=(q.cell (p:=⟨B,0,none⟩) D).trans E
 have I:B<W.heap.size:=dX D q.size
 have F:B≠W.heap.size:=by omega
 show Calls prog 208 #[.agg #[.string x.nm,x.a0,x.a1,x.a2,x.a3,x.a4],.pointer (some ⟨B,0,none⟩)] W _
 go_enter func208,ntmps208
 go_wp2
 all_goals(go_ret;exact⟨by simp_all,q.alloc q.size _⟩)
theorem xU (g:Nat) (lb:Array Value) (c:Nat) (w:World):Calls prog 219 #[.slice none 0 c,.func (.func g) #[] lb] w fun e w'=>e= .returned (.int .i64 (-1))∧w=w':=by
 go_enter func219,ntmps219
 go_wp2
 go_loopw[8] (fun v wr=>v= .int .i64 0∧wr=w) (fun _ _=>0)
 case atStart=>exact⟨rfl,rfl⟩
 case round=>
  obtain⟨rfl,rfl⟩:=hrel
  go_wp2
  go_ret
  exact⟨rfl,rfl⟩
theorem NE (g:Nat) (lb:Array Value) (c:Nat) (w:World):Calls prog 207 #[.slice none 0 c,.func (.func g) #[] lb] w fun e w'=>e= .returned (.bool false)∧w=w':=by
 have q:=dM (xU g lb c)
 go_enter func207,ntmps207
 go_wp2_with(go_at_call 219;refine(q.out _).mono ?_;rintro e w' ⟨rfl,rfl⟩)
 go_ret
 exact⟨rfl,rfl⟩
def RowM (w:World) (v:Value) (zs:List MC):Prop:=(v= .slice none 0 0∧zs=[])∨ ∃g c,v= .slice (some ⟨g,0,none⟩) zs.length c∧g<w.heap.size∧ ∀j,j<zs.length→ ∀i u,(og zs[j]!)[i]? =some u→w.cell? ⟨g,0+j*6+i,none⟩=some u
theorem ND (v:Value) (zs:List MC) (hz:zs.length≤1000000) (t:ByteArray) (B:Nat) (w:World) (F:B<w.heap.size) (D:w.cell? ⟨B,0,none⟩=some (.string t)) (h:RowM w v zs):
  Calls prog 207 #[v,.func (.func 208) #[] #[.pointer (some ⟨B,0,none⟩)]] w fun e w'=>e= .returned (.bool (zs.any fun x=>x.nm.toList==t.toList))∧Below w.heap.size w w':=by
 rcases h with⟨rfl,rfl⟩|⟨g,c,rfl,q,E⟩
 ·refine(NE _ _ _ w).mono ?_
  rintro e w' ⟨rfl,rfl⟩
  exact⟨rfl,dU _ _⟩
 ·have G: ∀args w,(callFunc 208 args).run prog w= .ok (.enter 208 args) w:=gJ func208 (by kernel_rfl) rfl
  have:=AnyQ.slices_ContainsFunc Tryz.containsM 6 Tryz.isAgg133 Tryz.sizeOf133 og (fun _=>rfl) (fun x=>x.nm.toList==t.toList) 208 #[.pointer (some ⟨B,0,none⟩)] G g 0 zs.length c zs w (Ao t B w F D) (dQ _) (by omega) q E
  rw[g9]at this
  exact this
theorem RowM.moved {w q:World} {v:Value} {zs:List MC} {B:Nat} (h:RowM w v zs) (E:w.grownBy q (some B)) (G:v.ownBlock≠some B):RowM q v zs:=by
 rcases h with h|⟨g,c,rfl,D,L⟩
 ·exact .inl h
 ·refine .inr ⟨g,c,rfl,dX D E.size,fun j I i u F=> ?_⟩
  rw[←L j I i u F]
  unfold World.cell?
  rw[E.block g D (by intro e;injection e with e;exact G (by rw[e];rfl))]
def BA (l:List Int) (i:Nat) (ks:List ByteArray):(Nat×Int)⊕(ByteArray×Nat):=
 if(nE l (d_ l i)).2.2≠0 then .inl ((nE l (d_ l i)).2.1,(nE l (d_ l i)).2.2)
 else if nw ks (toS (nE l (d_ l i)).1)=true then .inl (d_ l i,52)
 else .inr (toS (nE l (d_ l i)).1,(nE l (d_ l i)).2.1)
def Bv (w:World) (rb:Nat) (s:ByteArray) (n:Int) (r:(Nat×Int)⊕(ByteArray×Nat)) (e:Ending) (w':World):Prop:=
 match r with
 | .inl (p,er)=>zF w rb (p:Nat) er e w'
 | .inr (t,j)=>e= .returned (.string t)∧pv w w' rb s (j:Nat) n
theorem Fm (zs:List MC) (t:ByteArray):(zs.any fun x=>x.nm.toList==t.toList)=nw (zs.map MC.nm) t:=by
 unfold nw
 rw[List.any_map]
 congr 1
 funext x
 simp only[Function.comp_apply]
 by_cases h:x.nm=t
 ·rw[sK h,ec h]
 ·rw[JW h,dT h]
theorem uy (q:Nat) (s:ByteArray) (i:Nat) (n:Int) (w:World) (v:Value) (zs:List MC) (h:Rdr w q s i n) (G:GW w q) (hi:i≤s.size) (hs:s.size≤100000) (hz:zs.length≤1000000) (ab:RowM w v zs) (ad:v.ownBlock≠some q):
  Calls prog 194 #[.pointer (some ⟨q,0,none⟩),v] w (Bv w q s n (BA (a_ s) i (zs.map MC.nm))):=by
 have ax:=h.lt
 obtain⟨r,D⟩:=yaa (BA (a_ s) i (zs.map MC.nm))
 have E:=BQ _ (a_ s) i (dQ _) (by rw[j_];exact hi)
 rw[j_]at E
 unfold BA at D
 have HB:=dM (wn q s i n w h hi (by omega))
 obtain⟨p,R⟩:=yaa (d_ (a_ s) i)
 rw[←R]at HB E D
 have ak:=E.2
 have HQ:=dM (fun(W:World) (D:Rdr W q s p n) (G:GW W q)=>Mj q s p n W D G ak hs)
 obtain⟨Q,Y⟩:=yaa (nE (a_ s) p)
 rw[←Y]at HQ D
 rw[show BA (a_ s) i (zs.map MC.nm)=r by rw[D,Y,R];rfl]
 rw[←Fm]at D
 have HR:=dM D
 have HG:=dM G
 have ao:=dM ab
 have ar:=dM ad
 clear h G E D R Y ab ad
 go_enter func194,ntmps194
 go_wp2_with(first|(go_at_call 129;(with_reducible refine HB.out.mono ?_);rintro e w1 ⟨rfl,ae,O⟩;have aa:=dM ae;have aq:=dM O;obtain⟨⟨c0,c1,c2⟩,f0,f1,f2⟩:=Rdr.cells O;clear ae O)|fail)
 refine(HQ.out _ aq.out (HG.out.grown aa.out)).mono ?_
 rintro e B (⟨I,rfl,F⟩|⟨I,rfl,am⟩)
 ·have N:Hid (r=if(zs.any fun x=>x.nm.toList==(toS Q.1).toList)=true then .inl (p,52)else .inr (toS Q.1,Q.2.1)):=dM (HR.out.trans (dN (fun h=>h I)))
  obtain⟨T,X⟩:=yaa (toS Q.1)
  obtain⟨j,U⟩:=yaa Q.2.1
  rw[←X,←U]at N
  rw[←X]
  rw[←U]at F
  have ai:=dM (aa.out.trans F.1)
  have ap:=dM F.2
  clear F I X U
  go_wp2_with fail
  have M:B.grownBy (B.alloc (.cells #[.string T] 9)) none:=dO _ _ _
  have V:(B.alloc (.cells #[.string T] 9)).cell? ⟨B.heap.size,0,none⟩=some (.string T):=Blk.cell (qb B rfl [.string T] 9) 0
  have av:=dM V
  have af:Hid (B.heap.size<(B.alloc (.cells #[.string T] 9)).heap.size):=dM (by simp)
  have aj:=dM (ND v zs hz T B.heap.size _ af.out V (ao.out.moved (ai.out.trans (M.but _)) ar.out))
  have au:=dM (ai.out.trans (M.but (some q)))
  have ag:Hid (Rdr (B.alloc (.cells #[.string T] 9)) q s j n):=dM (Blk.grownN ap.out M)
  obtain⟨b,hb⟩:=yaa ((zs.any fun x=>x.nm.toList==T.toList))
  rw[←hb]at N aj
  clear M V hb
  refine aj.out.mono ?_
  rintro e w3 ⟨rfl,L⟩
  have aw:=dM L
  have ay:w3.cell? ⟨B.heap.size,0,none⟩=some (.string T):=(L.cell (p:=⟨B.heap.size,0,none⟩) af.out).trans av.out
  have ah:=dM (au.out.trans (od L (some q)))
  clear L
  cases b with
  |true=>
   have Z:r= .inl (p,52):=N.out
   go_wp2_with(go_at_call 130;(with_reducible refine(wu _ _ _).mono ?_);rintro e w' ⟨rfl,rfl⟩)
   exact⟨rfl,rfl,ah.out⟩
  |false=>
   have Z:r= .inr (T,j):=N.out
   go_wp2
   go_ret
   rw[Z]
   exact⟨rfl,ah.out,Blk.below ag.out aw.out (ag.out.lt)⟩
 ·have Z:r= .inl (Q.2.1,Q.2.2):=HR.out.trans (dP I)
  go_wp2
  exact⟨rfl,rfl,aa.out.trans am⟩
def FlatM (W:World) (S:Nat→Prop):List (ByteArray×J)→List MC→Prop
 |[],zs=>zs=[]
 |m::r,zs=> ∃z zs',zs=z::zs'∧z.nm=m.1∧m.1.size≤9223372036854775807∧RepS W S m.2 (.agg #[z.a0,z.a1,z.a2,z.a3,z.a4])∧FlatM W S r zs'
theorem FlatM.length {S:Nat→Prop} {W:World}: ∀{q:List (ByteArray×J)} {zs:List MC},FlatM W S q zs→zs.length=q.length
 |[],zs,h=>by rw[FlatM]at h;rw[h];rfl
 |m::r,zs,h=>by obtain⟨z,B,rfl,_,_,_,h⟩:=h;simp[h.length]
theorem FlatM.names {S:Nat→Prop} {W:World}: ∀{q:List (ByteArray×J)} {zs:List MC},FlatM W S q zs→zs.map MC.nm=q.map Prod.fst
 |[],zs,h=>by rw[FlatM]at h;rw[h];rfl
 |m::r,zs,h=>by obtain⟨z,B,rfl,e,_,_,h⟩:=h;simp[h.names,e]
theorem FlatM.keeps {S T:Nat→Prop} {W E:World} (B:Keeps S W E) (D: ∀b,S b→b<W.heap.size→T b): ∀{q:List (ByteArray×J)} {zs:List MC},FlatM W S q zs→FlatM E T q zs
 |[],zs,h=>h
 |m::r,zs,h=>by obtain⟨z,F,rfl,e,I,G,h⟩:=h;exact⟨z,F,rfl,e,I,RepS.keeps B D _ _ G,h.keeps B D⟩
theorem FlatM.snoc {S:Nat→Prop} {W:World} {t:ByteArray} {x:J} {a0 a1 a2 a3 a4:Value} (D:t.size≤9223372036854775807) (B:RepS W S x (.agg #[a0,a1,a2,a3,a4])): ∀{q:List (ByteArray×J)} {zs:List MC},FlatM W S q zs→FlatM W S (q++[(t,x)]) (zs++[⟨t,a0,a1,a2,a3,a4⟩])
 |[],zs,h=>by rw[FlatM]at h;subst h;exact⟨_,[],rfl,rfl,D,B,rfl⟩
 |m::r,zs,h=>by obtain⟨z,G,rfl,e,F,E,h⟩:=h;exact⟨z,_,rfl,e,F,E,h.snoc D B⟩
def p_ (zs:List MC):List Value:=zs.flatMap og
theorem sD (zs:List MC):(p_ zs).length=zs.length*6:=by
 unfold p_
 induction zs with
 |nil=>rfl
 |cons z r ih=>rw[List.flatMap_cons,dS,ih];simp[og];omega
theorem Ks: ∀(zs:List MC) (j:Nat),j<zs.length→ ∀i u,(og zs[j]!)[i]? =some u→(p_ zs)[j*6+i]? =some u
 |[],j,h,_,_,_=>by simp at h
 |z::r,0,_,i,u,q=>by
  have q:(og z)[i]? =some u:=q
  have hi:i<(og z).length:=by
   by_cases h:i<(og z).length
   ·exact h
   ·rw[fJ (by omega)]at q;cases q
  show(og z++p_ r)[0*6+i]? =some u
  rw[k7,eL,fP hi,q]
 |z::r,j+1,B,i,u,q=>by
  have B:j<r.length:=by simpa using B
  have q:(og r[j]!)[i]? =some u:=by
   rw[←q];congr 2
  show(og z++p_ r)[(j+1)*6+i]? =some u
  have D:(og z).length=6:=rfl
  rw[ez (by omega),D,show(j+1)*6+i-6=j*6+i by omega]
  exact Ks r j B i u q
theorem EI {w:World} {base n:Nat} {v:Value} {zs:List MC} (h:w.ownsRow base 133 6 v n (p_ zs)) (D:zs.length=n):RowM w v zs:=by
 rcases h.2 with⟨q,h0⟩|⟨g,F,G,q,_⟩
 ·exact .inl ⟨q,ea (by omega)⟩
 ·subst q
  refine .inr ⟨g,F,by rw[D],(h.lt g rfl).2,fun j E i u B=> ?_⟩
  have:=h.cells rfl _ _ (Ks zs j E i u B)
  rwa [eW,show 0+(j*6+i)=0+j*6+i by omega]at this
structure OInv (W wr:World) (rb:Nat) (s:ByteArray) (dep:Int) (ms:List (ByteArray×J)) (zs:List MC) (vM:Value) (i n:Int):Prop where
 c2:Blk wr W.heap.size 227 [.pointer (some ⟨rb,0,none⟩)]
 c3:Blk wr (W.heap.size+1) 3 [.int .i64 dep]
 c4:Blk wr (W.heap.size+2) 63 zeros5
 c5:Blk wr (W.heap.size+3) 174 [vM]
 own:wr.ownsRow (W.heap.size+4) 133 6 vM ms.length (p_ zs)
 flat:FlatM wr (fun b=>W.heap.size+4≤b∧vM.ownBlock≠some b) ms zs
 gr:W.grownBy wr (some rb)
 lt:rb<W.heap.size
 sz:W.heap.size+4≤wr.heap.size
 rdr:Rdr wr rb s i n
theorem OInv.row {W wr:World} {B:Nat} {s:ByteArray} {E:Int} {D:List (ByteArray×J)} {zs:List MC} {q:Value} {i n:Int} (h:OInv W wr B s E D zs q i n):RowM wr q zs:=EI h.own h.flat.length
theorem OInv.far {W wr:World} {q:Nat} {s:ByteArray} {E:Int} {D:List (ByteArray×J)} {zs:List MC} {B:Value} {i n:Int} (h:OInv W wr q s E D zs B i n):B.ownBlock≠some q:=fun e=>by have:=(h.own.lt q e).1;have:=h.lt;omega
theorem OInv.moved {W wr D:World} {B:Nat} {s:ByteArray} {I:Int} {G:List (ByteArray×J)} {zs:List MC} {E:Value} {i n j m:Int} (h:OInv W wr B s I G zs E i n) (q:wr.grownBy D (some B)) (L:Rdr D B s j m):OInv W D B s I G zs E j m:=by
 have lt:=h.lt
 have ne: ∀k,W.heap.size≤k→some k≠some B:=fun k N e=>by injection e with e;omega
 refine⟨h.c2.grown q (ne _ (dQ _)),h.c3.grown q (ne _ (by omega)),h.c4.grown q (ne _ (by omega)),h.c5.grown q (ne _ (by omega)),h.own.kept q ?_,?_,h.gr.trans q,lt,dV h.sz q.size,L⟩
 ·cases hv:E.ownBlock with
  |none=>exact .inl rfl
  |some g=>exact .inr (fun e=>by injection e with e;have:=(h.own.lt g hv).1;omega)
 ·exact h.flat.keeps ⟨q.size,fun b F M=>q.block b M (ne b (by have:=F.1;omega))⟩ (fun b F _=>F)
theorem OInv.add {W wr B G:World} {N:Nat} {s:ByteArray} {ab:Int} {D:List (ByteArray×J)} {zs:List MC} {M:Value} {i n j m:Int} {t:ByteArray} {x:J} {c0 c1 c2 c3 c4:Value} {g L:Nat} (h:OInv W wr N s ab D zs M i n) (h4:wr.grownBy B (some N)) (U:Rdr B N s j m) (ht:t.size≤9223372036854775807)
  (hx:RepS B (fun b=>wr.heap.size≤b) x (.agg #[c0,c1,c2,c3,c4])) (F:B.grownBy G M.ownBlock) (Z:G.ownsRow (W.heap.size+4) 133 6 (.slice (some ⟨g,0,none⟩) (D.length+1) L) (D.length+1) (p_ zs++[.string t,c0,c1,c2,c3,c4])) (aa:M.ownBlock=some g∨B.heap.size≤g):
  OInv W (G.setCell ⟨W.heap.size+3,0,none⟩ (.slice (some ⟨g,0,none⟩) (D.length+1) L)) N s ab (D++[(t,x)]) (zs++[⟨t,c0,c1,c2,c3,c4⟩]) (.slice (some ⟨g,0,none⟩) (D.length+1) L) j m:=by
 have q:=h.moved h4 U
 have I:=ou G (W.heap.size+3) 0 (.slice (some ⟨g,0,none⟩) (D.length+1) L)
 have lt:=h.lt
 have ae:W.heap.size+4≤g:=(Z.lt g rfl).1
 have X:=fun k E=>(q.own.lt k E).1
 have s4:=q.sz
 have O: ∀k,k<B.heap.size→k<W.heap.size+4→k≠W.heap.size+3→(G.setCell ⟨W.heap.size+3,0,none⟩ (.slice (some ⟨g,0,none⟩) (D.length+1) L)).heap[k]? =B.heap[k]? :=fun k E h1 V=>by
  rw[I.block k (dX E F.size) (by intro e;injection e with e;exact V e)]
  exact F.block k E (fun e=>by have:=X k e.symm;omega)
 have Y: ∀b,b<B.heap.size→W.heap.size+4≤b→M.ownBlock≠some b→(G.setCell ⟨W.heap.size+3,0,none⟩ (.slice (some ⟨g,0,none⟩) (D.length+1) L)).heap[b]? =B.heap[b]? :=fun b E h1 V=>by
  rw[I.block b (dX E F.size) (by intro e;injection e with e;omega)]
  exact F.block b E (fun e=>V e.symm)
 have R:B.heap.size≤(G.setCell ⟨W.heap.size+3,0,none⟩ (.slice (some ⟨g,0,none⟩) (D.length+1) L)).heap.size:=dV F.size I.size
 refine⟨(O _ (by omega) (by omega) (by omega)).trans q.c2,(O _ (by omega) (by omega) (by omega)).trans q.c3,(O _ (by omega) (by omega) (by omega)).trans q.c4,?_,?_,?_,?_,lt,dV s4 R,(O N U.lt (by omega) (by omega)).trans U⟩
 ·have:Blk G (W.heap.size+3) 174 [M]:=q.c5.grown F (fun e=>by have:=X _ e.symm;omega)
  exact this.setCell 0 _
 ·rw[dS,show p_ (zs++[⟨t,c0,c1,c2,c3,c4⟩])=p_ zs++[.string t,c0,c1,c2,c3,c4]by simp[p_,og]]
  exact Z.kept I (.inr (by simp[Value.ownBlock];omega))
 ·refine FlatM.snoc ht ?_ ?_
  ·refine RepS.keeps (S:=fun b=>wr.heap.size≤b) ⟨R,fun b h1 Q=> ?_⟩ (fun b h1 Q=> ?_) _ _ hx
   ·replace h1:wr.heap.size≤b:=h1
    have hs:=h.sz
    exact Y b Q (by omega) (fun e=>by have:=(h.own.lt b e).2;omega)
   ·replace h1:wr.heap.size≤b:=h1
    have hs:=h.sz
    refine⟨by omega,fun e=> ?_⟩
    have e:g=b:=by simpa[Value.ownBlock]using e
    rcases aa with h'|h'
    ·have:=(h.own.lt g h').2;omega
    ·omega
  ·refine q.flat.keeps ⟨R,fun b h1 Q=> ?_⟩ (fun b h1 Q=> ?_)
   ·exact Y b Q h1.1 h1.2
   ·refine⟨h1.1,fun e=> ?_⟩
    have e:g=b:=by simpa[Value.ownBlock]using e
    rcases aa with h'|h'
    ·exact h1.2 (by rw[h',e])
    ·omega
 ·refine⟨?_,?_,?_,dV q.gr.size R,fun k E ad=> ?_⟩
  ·exact(I.os.trans F.os).trans q.gr.os
  ·exact(I.tape.trans F.tape).trans q.gr.tape
  ·exact(I.output.trans F.output).trans q.gr.output
  ·exact(O k (dX E q.gr.size) (by omega) (by omega)).trans (q.gr.block k E ad)
theorem Ax {w:World} {base n:Nat} {e:TypeId} {v:Value} {xs:List Value} (h:w.ownsRow base e 6 v n xs):v= .slice none 0 0∨ ∃g q,v= .slice (some ⟨g,0,none⟩) n q:=by
 rcases h.2 with⟨h,_⟩|⟨g,q,B,h,_⟩
 ·exact .inl h
 ·exact .inr ⟨g,q,h⟩
theorem sr:(prog.info? 133).map (fun i=>(i.zero,i.size,i.bytes))=some (some (.agg #[.string ⟨#[]⟩,.int .i64 0,.int .i64 0,.string ⟨#[]⟩,.slice none 0 0,.slice none 0 0]),6,96):=by kernel_rfl
def DR (W:World) (rb:Nat) (s:ByteArray) (dep:Int) (ms:List (ByteArray×J)) (t:ByteArray) (x:J) (p:Nat) (n:Int) (e:Ending) (w':World):Prop:=
 ∃zs vM q,e= .returned (.tuple #[])∧q≤s.size∧d_ (a_ s) q=p∧OInv W w' rb s dep (ms++[(t,x)]) zs vM (q:Nat) n
theorem EQ (W wr:World) (Q:Nat) (s:ByteArray) (aa:Int) (hd:0≤aa∧aa≤9) (ms:List (ByteArray×J)) (zs:List MC) (Y:Value) (aT:ms.length≤10000) (i n m:Int) (j k:Nat) (t:ByteArray) (ht:t.size≤9223372036854775807) (x:J) (p:Nat) (h:OInv W wr Q s aa ms zs Y i n)
  (aE:Calls prog 194 #[.pointer (some ⟨Q,0,none⟩),Y] wr (fun e w'=>e= .returned (.string t)∧pv wr w' Q s (j:Nat) n))
  (aH: ∀w,Rdr w Q s (j:Nat) n→Calls prog 129 #[.pointer (some ⟨Q,0,none⟩)] w (fun e w'=>e= .returned (.tuple #[])∧pv w w' Q s (k:Nat) n))
  (aA: ∀w,Rdr w Q s (k:Nat) n→Calls prog 188 #[.pointer (some ⟨Q,0,none⟩),.int .u8 58] w (fun e w'=>e= .returned (.tuple #[])∧pv w w' Q s (k+1:Nat) n))
  (hv: ∀w,Rdr w Q s (k+1:Nat) n→wr.grownBy w (some Q)→Calls prog 128 #[.pointer (some ⟨Q,0,none⟩),.int .i64 (aa+1)] w (fun e w'=> ∃v q,e= .returned v∧RepS w' (fun b=>w.heap.size≤b) x v∧q≤s.size∧d_ (a_ s) q=p∧pv w w' Q s (q:Nat) m)):
  Calls prog 193 #[.pointer (some ⟨W.heap.size,0,none⟩),.pointer (some ⟨W.heap.size+3,0,none⟩),.pointer (some ⟨W.heap.size+1,0,none⟩)] wr (DR W Q s aa ms t x p m):=by
 have aP:=dM h
 have aO:=dM aE
 have aR:=dM aH
 have aL:=dM aA
 have aK:=dM hv
 have k2:wr.cell? ⟨W.heap.size,0,none⟩=some (.pointer (some ⟨Q,0,none⟩)):=h.c2.cell 0
 have k3:wr.cell? ⟨W.heap.size+1,0,none⟩=some (.int .i64 aa):=h.c3.cell 0
 have k5:wr.cell? ⟨W.heap.size+3,0,none⟩=some Y:=h.c5.cell 0
 have aV:=h.lt
 have aS:=h.sz
 obtain⟨d0,d1⟩:=hd
 have hw:IntKind.i64.wrap (aa+1)=aa+1:=by rw[es];omega
 have HT:=dM ht
 obtain⟨iM,hM,ay,ax,aw⟩:=gw sr
 clear h aE aH aA hv
 go_enter lK,mn
 go_wp2_with(first|(go_at_call 194;(with_reducible refine aO.out.mono ?_);rintro e w1 ⟨rfl,av,aD⟩;have aQ:=dM av;have aN:=dM aD;have a2:w1.cell? ⟨W.heap.size,0,none⟩=some (.pointer (some ⟨Q,0,none⟩)):=nl k2 av (by intro e;injection e with e<;>omega);clear av aD)|(go_at_call 129;(with_reducible refine(aR.out _ aN.out).mono ?_);rintro e w2 ⟨rfl,aG,aC⟩;have az:=dM (aQ.out.trans aG);have aM:=dM aC;have b2:w2.cell? ⟨W.heap.size,0,none⟩=some (.pointer (some ⟨Q,0,none⟩)):=nl k2 az.out (by intro e;injection e with e<;>omega);clear aG aC)|(go_at_call 188;(with_reducible refine(aL.out _ aM.out).mono ?_);rintro e w3 ⟨rfl,ag,af⟩;have V:=dM (az.out.trans ag);have ad:=dM af;clear ag af)|fail)
 have HI:=dM (aP.out.moved V.out ad.out)
 have HV:=dM (fun w hr hg=>aK.out w hr (V.out.trans hg))
 have l2:=nl k2 V.out (by intro e;injection e with e<;>omega)
 have l3:=nl k3 V.out (by intro e;injection e with e<;>omega)
 have l5:=nl k5 V.out (by intro e;injection e with e<;>omega)
 have aU:W.heap.size+4≤w3.heap.size:=HI.out.sz
 clear aP aK aO aR aL aQ aN az aM V ad a2 b2 k2 k3 k5 aS
 refine fh (S:=fun X=>X.cell? ⟨W.heap.size,0,none⟩=some (.pointer (some ⟨Q,0,none⟩))∧X.cell? ⟨W.heap.size+1,0,none⟩=some (.int .i64 aa)) (by kernel_rfl) ⟨l2,l3⟩ (fun aW=> ?_)
 refine qi 1 ?_
 try simp only[k_]
 refine qi 2 ?_
 try simp only[k_]
 refine qi 3 ?_
 try simp only[k_]
 refine qi 4 ?_
 try simp only[k_]
 refine eO (rs:=[0,5]) (by kernel_rfl) (by simp) ?_
 refine en rfl (fun K D=> ?_) ?_
 ·skip
  go_simp
  refine D.out _ _ ⟨l2,l3⟩ (fun a6=> ?_)
  clear D K
  try simp only[k_]
  refine eO (rs:=[5]) (by kernel_rfl) (by simp) ?_
  refine en rfl (fun K D=> ?_) eM
  go_simp
  go_at_call 128
  (with_reducible refine(HV.out _ (Blk.drew HI.out.rdr) (nx (ov w3 _))).mono ?_)
  rintro e B ⟨v,q,rfl,ae,hq,aq,ag,af⟩
  obtain⟨vk,A,N,rfl, -,⟨O,M,rfl, -, -⟩, -, -⟩:=ae.open
  obtain⟨L,ap⟩: ∃a,a=x.kind:=⟨_,rfl⟩
  obtain⟨I,ao⟩: ∃a,a=x.n:=⟨_,rfl⟩
  obtain⟨G,am⟩: ∃a,a=x.s:=⟨_,rfl⟩
  obtain⟨F,ak⟩: ∃a,a=x.l.length:=⟨_,rfl⟩
  obtain⟨E,aj⟩: ∃a,a=x.k.length:=⟨_,rfl⟩
  rw[←ap,←ao,←am,←ak,←aj]at ae⊢
  clear ap ao am ak aj
  have V:=dM ((nx (ov w3 _)).trans ag)
  have HX:Hid (RepS B (fun b=>w3.heap.size≤b) x (.agg #[.int .i64 L,.int .i64 I,.string G,.slice A F N,.slice O E M])):=dM (RepS.keeps (Keeps.refl _ B) (fun b (h:_≤b) _=>h) _ _ ae)
  have HQ:=dM (And.intro hq aq)
  have ad:=dM af
  clear ae hq aq ag af
  have m2:B.cell? ⟨W.heap.size,0,none⟩=some (.pointer (some ⟨Q,0,none⟩)):=nl l2 V.out (by intro e;injection e with e<;>omega)
  have m3:B.cell? ⟨W.heap.size+1,0,none⟩=some (.int .i64 aa):=nl l3 V.out (by intro e;injection e with e<;>omega)
  have m5:B.cell? ⟨W.heap.size+3,0,none⟩=some Y:=nl l5 V.out (by intro e;injection e with e<;>omega)
  refine D.out _ _ ⟨m2,m3⟩ (fun aZ=> ?_)
  clear D K
  try simp only[k_]
  refine qi 6 ?_
  try simp only[k_]
  refine eO (rs:=[7]) (by kernel_rfl) (by simp) ?_
  refine en rfl (fun K D=> ?_) eM
  go_simp
  have Z:=dO B (.cells #[.string t,.int .i64 L,.int .i64 I,.string G,.slice A F N,.slice O E M] 133) (some Q)
  have ai:=dM (V.out.trans Z)
  have n2:(B.alloc (.cells #[.string t,.int .i64 L,.int .i64 I,.string G,.slice A F N,.slice O E M] 133)).cell? ⟨W.heap.size,0,none⟩=some (.pointer (some ⟨Q,0,none⟩)):=nl m2 Z (by intro e;injection e with e<;>omega)
  have n3:(B.alloc (.cells #[.string t,.int .i64 L,.int .i64 I,.string G,.slice A F N,.slice O E M] 133)).cell? ⟨W.heap.size+1,0,none⟩=some (.int .i64 aa):=nl m3 Z (by intro e;injection e with e<;>omega)
  have n5:(B.alloc (.cells #[.string t,.int .i64 L,.int .i64 I,.string G,.slice A F N,.slice O E M] 133)).cell? ⟨W.heap.size+3,0,none⟩=some Y:=nl m5 Z (by intro e;injection e with e<;>omega)
  refine D.out _ _ ⟨n2,n3⟩ (fun aY=> ?_)
  clear D K
  try simp only[k_]
  refine eO (rs:=[8]) (by kernel_rfl) (by simp) ?_
  refine en rfl (fun K D=> ?_) eM
  have HM:=dM (HI.out.moved ai.out (Blk.grownN ad.out (dO B (.cells #[.string t,.int .i64 L,.int .i64 I,.string G,.slice A F N,.slice O E M] 133) none)))
  have aB:W.heap.size+4≤(B.alloc (.cells #[.string t,.int .i64 L,.int .i64 I,.string G,.slice A F N,.slice O E M] 133)).heap.size:=HM.out.sz
  refine fX _ (by rfl) _ _ _ (by rfl) (W.heap.size+4) 133 iM (.agg #[.string ⟨#[]⟩,.int .i64 0,.int .i64 0,.string ⟨#[]⟩,.slice none 0 0,.slice none 0 0]) 6 96 ib hM ay ax aw rfl (by omega) Y ms.length (p_ zs) (by rfl) HM.out.own ⟨B.heap.size,0,none⟩ 1 1 [.string t,.int .i64 L,.int .i64 I,.string G,.slice A F N,.slice O E M] (by rfl) (by rfl) (eU (cs:= #[.string t,.int .i64 L,.int .i64 I,.string G,.slice A F N,.slice O E M]) (t:=133) (fr:=(0,0)) (eC B (.cells #[.string t,.int .i64 L,.int .i64 I,.string G,.slice A F N,.slice O E M] 133))) (by simp[Value.oneCell']) (by omega) (by unfold maxLen;omega) (by omega) (by omega) (B.alloc (.cells #[.string t,.int .i64 L,.int .i64 I,.string G,.slice A F N,.slice O E M] 133)).heap.size rfl ?_
  intro g aJ w5 ab R ah ar
  have aF:W.heap.size+4≤g:=(ab.lt g rfl).1
  have au:=dM (HI.out.add ai.out (Blk.grownN ad.out (dO B (.cells #[.string t,.int .i64 L,.int .i64 I,.string G,.slice A F N,.slice O E M] 133) none)) HT.out (RepS.keeps (Keeps.grown (dO B (.cells #[.string t,.int .i64 L,.int .i64 I,.string G,.slice A F N,.slice O E M] 133) none) (fun b _ e=>by cases e)) (fun _ h _=>h) _ _ HX.out) R ab (ah.imp_right (fun h=>iw h.symm)))
  have U: ∀k,k<W.heap.size+4→some k≠Y.ownBlock:=fun k hk e=>by have:=(HI.out.own.lt k e.symm).1;omega
  have o2:=nl n2 R (U W.heap.size (by omega))
  have o3:=nl n3 R (U (W.heap.size+1) (by omega))
  have o5:=nl n5 R (U (W.heap.size+3) (by omega))
  have oz:w5.frozen? ⟨W.heap.size+3,0,none⟩=false:=(HM.out.c5.grown R (U _ (by omega))).frozen 0
  clear ab R ah ar U
  refine D.out _ _ ⟨o2,o3⟩ (fun aX=> ?_)
  clear D K
  try simp only[k_]
  refine eO (rs:=[9]) (by kernel_rfl) (by simp) ?_
  refine en rfl (fun K D=> ?_) eM
  go_simp
  refine D.out _ _ ⟨nl o2 (ou w5 (W.heap.size+3) 0 _) (by intro e;injection e with e<;>omega),nl o3 (ou w5 (W.heap.size+3) 0 _) (by intro e;injection e with e<;>omega)⟩ (fun aI=> ?_)
  clear D K
  refine gC (by kernel_rfl) ?_ _
  go_end0
  exact⟨_,_,q,rfl,HQ.out.1,HQ.out.2,au.out⟩
 refine en rfl (fun K D=> ?_) eM
 go_simp
 go_at_call 128
 (with_reducible refine(HV.out _ (Blk.drew HI.out.rdr) (nx (ov w3 _))).mono ?_)
 rintro e B ⟨v,q,rfl,ae,hq,aq,ag,af⟩
 obtain⟨vk,A,N,rfl, -,⟨O,M,rfl, -, -⟩, -, -⟩:=ae.open
 obtain⟨L,ap⟩: ∃a,a=x.kind:=⟨_,rfl⟩
 obtain⟨I,ao⟩: ∃a,a=x.n:=⟨_,rfl⟩
 obtain⟨G,am⟩: ∃a,a=x.s:=⟨_,rfl⟩
 obtain⟨F,ak⟩: ∃a,a=x.l.length:=⟨_,rfl⟩
 obtain⟨E,aj⟩: ∃a,a=x.k.length:=⟨_,rfl⟩
 rw[←ap,←ao,←am,←ak,←aj]at ae⊢
 clear ap ao am ak aj
 have V:=dM ((nx (ov w3 _)).trans ag)
 have HX:Hid (RepS B (fun b=>w3.heap.size≤b) x (.agg #[.int .i64 L,.int .i64 I,.string G,.slice A F N,.slice O E M])):=dM (RepS.keeps (Keeps.refl _ B) (fun b (h:_≤b) _=>h) _ _ ae)
 have HQ:=dM (And.intro hq aq)
 have ad:=dM af
 clear ae hq aq ag af
 have m2:B.cell? ⟨W.heap.size,0,none⟩=some (.pointer (some ⟨Q,0,none⟩)):=nl l2 V.out (by intro e;injection e with e<;>omega)
 have m3:B.cell? ⟨W.heap.size+1,0,none⟩=some (.int .i64 aa):=nl l3 V.out (by intro e;injection e with e<;>omega)
 have m5:B.cell? ⟨W.heap.size+3,0,none⟩=some Y:=nl l5 V.out (by intro e;injection e with e<;>omega)
 refine D.out _ _ ⟨m2,m3⟩ (fun bf=> ?_)
 clear D K
 try simp only[k_]
 refine qi 6 ?_
 try simp only[k_]
 refine eO (rs:=[0,7]) (by kernel_rfl) (by simp) ?_
 refine en rfl (fun K D=> ?_) ?_
 ·skip
  go_simp
  refine D.out _ _ ⟨m2,m3⟩ (fun bd=> ?_)
  clear D K
  try simp only[k_]
  refine eO (rs:=[7]) (by kernel_rfl) (by simp) ?_
  refine en rfl (fun K D=> ?_) eM
  go_simp
  have Z:=dO B (.cells #[.string t,.int .i64 L,.int .i64 I,.string G,.slice A F N,.slice O E M] 133) (some Q)
  have ai:=dM (V.out.trans Z)
  have n2:(B.alloc (.cells #[.string t,.int .i64 L,.int .i64 I,.string G,.slice A F N,.slice O E M] 133)).cell? ⟨W.heap.size,0,none⟩=some (.pointer (some ⟨Q,0,none⟩)):=nl m2 Z (by intro e;injection e with e<;>omega)
  have n3:(B.alloc (.cells #[.string t,.int .i64 L,.int .i64 I,.string G,.slice A F N,.slice O E M] 133)).cell? ⟨W.heap.size+1,0,none⟩=some (.int .i64 aa):=nl m3 Z (by intro e;injection e with e<;>omega)
  have n5:(B.alloc (.cells #[.string t,.int .i64 L,.int .i64 I,.string G,.slice A F N,.slice O E M] 133)).cell? ⟨W.heap.size+3,0,none⟩=some Y:=nl m5 Z (by intro e;injection e with e<;>omega)
  refine D.out _ _ ⟨n2,n3⟩ (fun bc=> ?_)
  clear D K
  try simp only[k_]
  refine eO (rs:=[8]) (by kernel_rfl) (by simp) ?_
  refine en rfl (fun K D=> ?_) eM
  have HM:=dM (HI.out.moved ai.out (Blk.grownN ad.out (dO B (.cells #[.string t,.int .i64 L,.int .i64 I,.string G,.slice A F N,.slice O E M] 133) none)))
  have aB:W.heap.size+4≤(B.alloc (.cells #[.string t,.int .i64 L,.int .i64 I,.string G,.slice A F N,.slice O E M] 133)).heap.size:=HM.out.sz
  refine fX _ (by rfl) _ _ _ (by rfl) (W.heap.size+4) 133 iM (.agg #[.string ⟨#[]⟩,.int .i64 0,.int .i64 0,.string ⟨#[]⟩,.slice none 0 0,.slice none 0 0]) 6 96 ib hM ay ax aw rfl (by omega) Y ms.length (p_ zs) (by rfl) HM.out.own ⟨B.heap.size,0,none⟩ 1 1 [.string t,.int .i64 L,.int .i64 I,.string G,.slice A F N,.slice O E M] (by rfl) (by rfl) (eU (cs:= #[.string t,.int .i64 L,.int .i64 I,.string G,.slice A F N,.slice O E M]) (t:=133) (fr:=(0,0)) (eC B (.cells #[.string t,.int .i64 L,.int .i64 I,.string G,.slice A F N,.slice O E M] 133))) (by simp[Value.oneCell']) (by omega) (by unfold maxLen;omega) (by omega) (by omega) (B.alloc (.cells #[.string t,.int .i64 L,.int .i64 I,.string G,.slice A F N,.slice O E M] 133)).heap.size rfl ?_
  intro g aJ w5 ab R ah ar
  have aF:W.heap.size+4≤g:=(ab.lt g rfl).1
  have au:=dM (HI.out.add ai.out (Blk.grownN ad.out (dO B (.cells #[.string t,.int .i64 L,.int .i64 I,.string G,.slice A F N,.slice O E M] 133) none)) HT.out (RepS.keeps (Keeps.grown (dO B (.cells #[.string t,.int .i64 L,.int .i64 I,.string G,.slice A F N,.slice O E M] 133) none) (fun b _ e=>by cases e)) (fun _ h _=>h) _ _ HX.out) R ab (ah.imp_right (fun h=>iw h.symm)))
  have U: ∀k,k<W.heap.size+4→some k≠Y.ownBlock:=fun k hk e=>by have:=(HI.out.own.lt k e.symm).1;omega
  have o2:=nl n2 R (U W.heap.size (by omega))
  have o3:=nl n3 R (U (W.heap.size+1) (by omega))
  have o5:=nl n5 R (U (W.heap.size+3) (by omega))
  have oz:w5.frozen? ⟨W.heap.size+3,0,none⟩=false:=(HM.out.c5.grown R (U _ (by omega))).frozen 0
  clear ab R ah ar U
  refine D.out _ _ ⟨o2,o3⟩ (fun bb=> ?_)
  clear D K
  try simp only[k_]
  refine eO (rs:=[9]) (by kernel_rfl) (by simp) ?_
  refine en rfl (fun K D=> ?_) eM
  go_simp
  refine D.out _ _ ⟨nl o2 (ou w5 (W.heap.size+3) 0 _) (by intro e;injection e with e<;>omega),nl o3 (ou w5 (W.heap.size+3) 0 _) (by intro e;injection e with e<;>omega)⟩ (fun aI=> ?_)
  clear D K
  refine gC (by kernel_rfl) ?_ _
  go_end0
  exact⟨_,_,q,rfl,HQ.out.1,HQ.out.2,au.out⟩
 refine en rfl (fun K D=> ?_) eM
 go_simp
 have Z:=dO B (.cells #[.string t,.int .i64 L,.int .i64 I,.string G,.slice A F N,.slice O E M] 133) (some Q)
 have ai:=dM (V.out.trans Z)
 have n2:(B.alloc (.cells #[.string t,.int .i64 L,.int .i64 I,.string G,.slice A F N,.slice O E M] 133)).cell? ⟨W.heap.size,0,none⟩=some (.pointer (some ⟨Q,0,none⟩)):=nl m2 Z (by intro e;injection e with e<;>omega)
 have n3:(B.alloc (.cells #[.string t,.int .i64 L,.int .i64 I,.string G,.slice A F N,.slice O E M] 133)).cell? ⟨W.heap.size+1,0,none⟩=some (.int .i64 aa):=nl m3 Z (by intro e;injection e with e<;>omega)
 have n5:(B.alloc (.cells #[.string t,.int .i64 L,.int .i64 I,.string G,.slice A F N,.slice O E M] 133)).cell? ⟨W.heap.size+3,0,none⟩=some Y:=nl m5 Z (by intro e;injection e with e<;>omega)
 refine D.out _ _ ⟨n2,n3⟩ (fun ba=> ?_)
 clear D K
 try simp only[k_]
 refine eO (rs:=[0]) (by kernel_rfl) (by simp) ?_
 refine en rfl (fun K D=> ?_) eM
 go_simp
 refine D.out _ _ ⟨n2,n3⟩ (fun a8=> ?_)
 clear D K
 try simp only[k_]
 refine eO (rs:=[8]) (by kernel_rfl) (by simp) ?_
 refine en rfl (fun K D=> ?_) eM
 have HM:=dM (HI.out.moved ai.out (Blk.grownN ad.out (dO B (.cells #[.string t,.int .i64 L,.int .i64 I,.string G,.slice A F N,.slice O E M] 133) none)))
 have aB:W.heap.size+4≤(B.alloc (.cells #[.string t,.int .i64 L,.int .i64 I,.string G,.slice A F N,.slice O E M] 133)).heap.size:=HM.out.sz
 refine fX _ (by rfl) _ _ _ (by rfl) (W.heap.size+4) 133 iM (.agg #[.string ⟨#[]⟩,.int .i64 0,.int .i64 0,.string ⟨#[]⟩,.slice none 0 0,.slice none 0 0]) 6 96 ib hM ay ax aw rfl (by omega) Y ms.length (p_ zs) (by rfl) HM.out.own ⟨B.heap.size,0,none⟩ 1 1 [.string t,.int .i64 L,.int .i64 I,.string G,.slice A F N,.slice O E M] (by rfl) (by rfl) (eU (cs:= #[.string t,.int .i64 L,.int .i64 I,.string G,.slice A F N,.slice O E M]) (t:=133) (fr:=(0,0)) (eC B (.cells #[.string t,.int .i64 L,.int .i64 I,.string G,.slice A F N,.slice O E M] 133))) (by simp[Value.oneCell']) (by omega) (by unfold maxLen;omega) (by omega) (by omega) (B.alloc (.cells #[.string t,.int .i64 L,.int .i64 I,.string G,.slice A F N,.slice O E M] 133)).heap.size rfl ?_
 intro g aJ w5 ab R ah ar
 have aF:W.heap.size+4≤g:=(ab.lt g rfl).1
 have au:=dM (HI.out.add ai.out (Blk.grownN ad.out (dO B (.cells #[.string t,.int .i64 L,.int .i64 I,.string G,.slice A F N,.slice O E M] 133) none)) HT.out (RepS.keeps (Keeps.grown (dO B (.cells #[.string t,.int .i64 L,.int .i64 I,.string G,.slice A F N,.slice O E M] 133) none) (fun b _ e=>by cases e)) (fun _ h _=>h) _ _ HX.out) R ab (ah.imp_right (fun h=>iw h.symm)))
 have U: ∀k,k<W.heap.size+4→some k≠Y.ownBlock:=fun k hk e=>by have:=(HI.out.own.lt k e.symm).1;omega
 have o2:=nl n2 R (U W.heap.size (by omega))
 have o3:=nl n3 R (U (W.heap.size+1) (by omega))
 have o5:=nl n5 R (U (W.heap.size+3) (by omega))
 have oz:w5.frozen? ⟨W.heap.size+3,0,none⟩=false:=(HM.out.c5.grown R (U _ (by omega))).frozen 0
 clear ab R ah ar U
 refine D.out _ _ ⟨o2,o3⟩ (fun a7=> ?_)
 clear D K
 try simp only[k_]
 refine eO (rs:=[9]) (by kernel_rfl) (by simp) ?_
 refine en rfl (fun K D=> ?_) eM
 go_simp
 refine D.out _ _ ⟨nl o2 (ou w5 (W.heap.size+3) 0 _) (by intro e;injection e with e<;>omega),nl o3 (ou w5 (W.heap.size+3) 0 _) (by intro e;injection e with e<;>omega)⟩ (fun aI=> ?_)
 clear D K
 refine gC (by kernel_rfl) ?_ _
 go_end0
 exact⟨_,_,q,rfl,HQ.out.1,HQ.out.2,au.out⟩
theorem CR (W wr:World) (q:Nat) (s:ByteArray) (B:Int) (hd:0≤B∧B≤9) (ms:List (ByteArray×J)) (zs:List MC) (N:Value) (i n p er:Int) (j k:Nat) (t:ByteArray) (h:OInv W wr q s B ms zs N i n)
  (af:Calls prog 194 #[.pointer (some ⟨q,0,none⟩),N] wr (fun e w'=>e= .returned (.string t)∧pv wr w' q s (j:Nat) n))
  (ah: ∀w,Rdr w q s (j:Nat) n→Calls prog 129 #[.pointer (some ⟨q,0,none⟩)] w (fun e w'=>e= .returned (.tuple #[])∧pv w w' q s (k:Nat) n))
  (aa: ∀w,Rdr w q s (k:Nat) n→Calls prog 188 #[.pointer (some ⟨q,0,none⟩),.int .u8 58] w (fun e w'=>e= .returned (.tuple #[])∧pv w w' q s (k+1:Nat) n))
  (hv: ∀w,Rdr w q s (k+1:Nat) n→wr.grownBy w (some q)→Calls prog 128 #[.pointer (some ⟨q,0,none⟩),.int .i64 (B+1)] w (fun e w'=>e= .panicked (v7 p er)∧w.grownBy w' (some q))):
  Calls prog 193 #[.pointer (some ⟨W.heap.size,0,none⟩),.pointer (some ⟨W.heap.size+3,0,none⟩),.pointer (some ⟨W.heap.size+1,0,none⟩)] wr (fun e w'=>e= .panicked (v7 p er)∧W.grownBy w' (some q)):=by
 have aq:=dM h
 have ap:=dM af
 have au:=dM ah
 have aj:=dM aa
 have ai:=dM hv
 have L:wr.cell? ⟨W.heap.size,0,none⟩=some (.pointer (some ⟨q,0,none⟩)):=h.c2.cell 0
 have k3:wr.cell? ⟨W.heap.size+1,0,none⟩=some (.int .i64 B):=h.c3.cell 0
 have Z:wr.cell? ⟨W.heap.size+3,0,none⟩=some (N):=h.c5.cell 0
 have aK:=h.lt
 have az:=h.sz
 obtain⟨d0,d1⟩:=hd
 have hw:IntKind.i64.wrap (B+1)=B+1:=by rw[es];omega
 clear h af ah aa hv
 go_enter lK,mn
 go_wp2_with(first|(go_at_call 194;(with_reducible refine ap.out.mono ?_);rintro e w1 ⟨rfl,O,ae⟩;have ar:=dM O;have ao:=dM ae;have a2:w1.cell? ⟨W.heap.size,0,none⟩=some (.pointer (some ⟨q,0,none⟩)):=nl L O (by intro e;injection e with e<;>omega);clear O ae)|(go_at_call 129;(with_reducible refine(au.out _ ao.out).mono ?_);rintro e w2 ⟨rfl,ag,ad⟩;have U:=dM (ar.out.trans ag);have am:=dM ad;have b2:w2.cell? ⟨W.heap.size,0,none⟩=some (.pointer (some ⟨q,0,none⟩)):=nl L U.out (by intro e;injection e with e<;>omega);clear ag ad)|(go_at_call 188;(with_reducible refine(aj.out _ am.out).mono ?_);rintro e G ⟨rfl,E,ab⟩;have F:=dM (U.out.trans E);have ak:=dM ab;clear E ab)|fail)
 have I:=dM (aq.out.moved F.out ak.out)
 have HV:=dM (fun w hr hg=>ai.out w hr (F.out.trans hg))
 have Y:=nl L F.out (by intro e;injection e with e<;>omega)
 have V:=nl k3 F.out (by intro e;injection e with e<;>omega)
 have l5:=nl Z F.out (by intro e;injection e with e<;>omega)
 have aJ:W.heap.size+4≤G.heap.size:=I.out.sz
 clear aq ai ap au aj ar ao U am F ak a2 b2 L k3 Z az
 refine fh (S:=fun X=>X.cell? ⟨W.heap.size,0,none⟩=some (.pointer (some ⟨q,0,none⟩))∧X.cell? ⟨W.heap.size+1,0,none⟩=some (.int .i64 B)) (by kernel_rfl) ⟨Y,V⟩ (fun aA=> ?_)
 refine kI (i:=1) (v:= ?aE) rfl (by kernel_rfl) (by kernel_rfl) (by kernel_rfl) (fun _ _ _ h=>h) (Or.inl ⟨by rfl,?ay⟩) (by assumption) ?aI
 case ay=>(intro w D;(try obtain⟨R,Q⟩:=D);first|(go_simp;done)|(go_simp;with_reducible rfl))
 try simp only[k_]
 refine kI (i:=2) (v:= ?aD) rfl (by kernel_rfl) (by kernel_rfl) (by kernel_rfl) (fun _ _ _ h=>h) (Or.inl ⟨by rfl,?ax⟩) (by assumption) ?aH
 case ax=>(intro w D;(try obtain⟨R,Q⟩:=D);first|(go_simp;done)|(go_simp;with_reducible rfl))
 try simp only[k_]
 refine kI (i:=3) (v:= ?aC) rfl (by kernel_rfl) (by kernel_rfl) (by kernel_rfl) (fun _ _ _ h=>h) (Or.inl ⟨by rfl,?aw⟩) (by assumption) ?aG
 case aw=>(intro w D;(try obtain⟨R,Q⟩:=D);first|(go_simp;done)|(go_simp;with_reducible rfl))
 try simp only[k_]
 refine kI (i:=4) (v:= ?aB) rfl (by kernel_rfl) (by kernel_rfl) (by kernel_rfl) (fun _ _ _ h=>h) (Or.inl ⟨by rfl,?av⟩) (by assumption) ?aF
 case av=>(intro w D;(try obtain⟨R,Q⟩:=D);first|(go_simp;done)|(go_simp;with_reducible rfl))
 try simp only[k_]
 refine eO (rs:=[0,5]) (by kernel_rfl) (by simp) ?_
 refine en rfl (fun K M=> ?_) ?_
 ·skip
  go_simp
  refine M.out _ _ ⟨Y,V⟩ (fun aA=> ?_)
  clear M K
  try simp only[k_]
  refine eO (rs:=[5]) (by kernel_rfl) (by simp) ?_
  refine en rfl (fun K M=> ?_) eM
  go_simp
  go_at_call 128
  (with_reducible refine(HV.out _ (Blk.drew I.out.rdr) (nx (ov G _))).mono ?_)
  rintro e w4 ⟨rfl,E⟩
  exact⟨rfl,rfl,I.out.gr.trans ((nx (ov G _)).trans E)⟩
 refine en rfl (fun K M=> ?_) eM
 go_simp
 go_at_call 128
 (with_reducible refine(HV.out _ (Blk.drew I.out.rdr) (nx (ov G _))).mono ?_)
 rintro e w4 ⟨rfl,E⟩
 exact⟨rfl,rfl,I.out.gr.trans ((nx (ov G _)).trans E)⟩
theorem NI (W wr:World) (q:Nat) (s:ByteArray) (F:Int) (G:List (ByteArray×J)) (zs:List MC) (B:Value) (i n p er:Int) (h:OInv W wr q s F G zs B i n)
  (D:Calls prog 194 #[.pointer (some ⟨q,0,none⟩),B] wr (fun e w'=>e= .panicked (v7 p er)∧wr.grownBy w' (some q))):
  Calls prog 193 #[.pointer (some ⟨W.heap.size,0,none⟩),.pointer (some ⟨W.heap.size+3,0,none⟩),.pointer (some ⟨W.heap.size+1,0,none⟩)] wr (fun e w'=>e= .panicked (v7 p er)∧W.grownBy w' (some q)):=by
 have L:=dM h
 have I:=dM D
 have R:wr.cell? ⟨W.heap.size,0,none⟩=some (.pointer (some ⟨q,0,none⟩)):=h.c2.cell 0
 have Q:wr.cell? ⟨W.heap.size+1,0,none⟩=some (.int .i64 F):=h.c3.cell 0
 have O:wr.cell? ⟨W.heap.size+3,0,none⟩=some B:=h.c5.cell 0
 clear h D
 go_enter lK,mn
 go_wp2_with(go_at_call 194;(with_reducible refine I.out.mono ?_);rintro e N ⟨rfl,E⟩;have M:=dM E;clear E)
 exact⟨rfl,rfl,L.out.gr.trans M.out⟩
theorem NJ (W wr:World) (q:Nat) (s:ByteArray) (Q:Int) (X:List (ByteArray×J)) (zs:List MC) (B:Value) (i n p er:Int) (j k:Nat) (t:ByteArray) (h:OInv W wr q s Q X zs B i n)
  (L:Calls prog 194 #[.pointer (some ⟨q,0,none⟩),B] wr (fun e w'=>e= .returned (.string t)∧pv wr w' q s (j:Nat) n))
  (O: ∀w,Rdr w q s (j:Nat) n→Calls prog 129 #[.pointer (some ⟨q,0,none⟩)] w (fun e w'=>e= .returned (.tuple #[])∧pv w w' q s (k:Nat) n))
  (F: ∀w,Rdr w q s (k:Nat) n→Calls prog 188 #[.pointer (some ⟨q,0,none⟩),.int .u8 58] w (fun e w'=>e= .panicked (v7 p er)∧w.grownBy w' (some q))):
  Calls prog 193 #[.pointer (some ⟨W.heap.size,0,none⟩),.pointer (some ⟨W.heap.size+3,0,none⟩),.pointer (some ⟨W.heap.size+1,0,none⟩)] wr (fun e w'=>e= .panicked (v7 p er)∧W.grownBy w' (some q)):=by
 have ad:=dM h
 have ab:=dM L
 have ag:=dM O
 have Y:=dM F
 have E:wr.cell? ⟨W.heap.size,0,none⟩=some (.pointer (some ⟨q,0,none⟩)):=h.c2.cell 0
 have k3:wr.cell? ⟨W.heap.size+1,0,none⟩=some (.int .i64 Q):=h.c3.cell 0
 have k5:wr.cell? ⟨W.heap.size+3,0,none⟩=some B:=h.c5.cell 0
 have ai:=h.lt
 have ah:=h.sz
 clear h L O F
 go_enter lK,mn
 go_wp2_with(first|(go_at_call 194;(with_reducible refine ab.out.mono ?_);rintro e V ⟨rfl,D,I⟩;have af:=dM D;have aa:=dM I;have a2:V.cell? ⟨W.heap.size,0,none⟩=some (.pointer (some ⟨q,0,none⟩)):=nl E D (by intro e;injection e with e<;>omega);clear D I)|(go_at_call 129;(with_reducible refine(ag.out _ aa.out).mono ?_);rintro e U ⟨rfl,N,G⟩;have R:=dM (af.out.trans N);have Z:=dM G;have b2:U.cell? ⟨W.heap.size,0,none⟩=some (.pointer (some ⟨q,0,none⟩)):=nl E R.out (by intro e;injection e with e<;>omega);clear N G)|(go_at_call 188;(with_reducible refine(Y.out _ Z.out).mono ?_);rintro e w3 ⟨rfl,M⟩;have ae:=dM (R.out.trans M);clear M))
 exact⟨rfl,rfl,ad.out.gr.trans ae.out⟩
def BB (l:List Int) (d:Nat) (i:Nat) (left:Int) (ms:List (ByteArray×J)):(Nat×Int)⊕(Nat×Int×List (ByteArray×J)):=
 match BA l i (ms.map Prod.fst)with
 | .inl e=> .inl e
 | .inr (t,j)=>if f_ l (d_ l j)≠58 then .inl (d_ l j,50)
  else if(nj l d (d_ l (d_ l j+1)) left).2.2.2≠0 then .inl ((nj l d (d_ l (d_ l j+1)) left).2.1,(nj l d (d_ l (d_ l j+1)) left).2.2.2)
  else .inr ((nj l d (d_ l (d_ l j+1)) left).2.1,(nj l d (d_ l (d_ l j+1)) left).2.2.1,ms++[(t,(nj l d (d_ l (d_ l j+1)) left).1)])
def py (ms:List (ByteArray×J)):List ByteArray×List J:=ms.foldl (fun a m=>nF m.1 m.2 false a.1 a.2) ([],[])
theorem J1 (q:List (ByteArray×J)) (t:ByteArray) (x:J):py (q++[(t,x)])=nF t x false (py q).1 (py q).2:=by
 unfold py;rw[l9];rfl
theorem Lo (a b:List ByteArray) (u:ByteArray):nw (a++b) u=(nw a u||nw b u):=by unfold nw;rw[List.any_append]
theorem uV (t:ByteArray) (x:J) (u:ByteArray): ∀(ks:List ByteArray) (vs:List J) (d:Bool),nw (nF t x d ks vs).1 u=if t=u then !d else nw ks u
 |[],vs,false=>by
  rw[nF];unfold nw
  by_cases h:t=u
  ·simp[h]
  ·simp[h]
 |[],vs,true=>by
  rw[nF];unfold nw
  by_cases h:t=u
  ·simp[h]
  ·simp[h]
 |k::ks,vs,d=>by
  rw[nF]
  show nw ((if d=false∧Op.bytesLess k.toList t.toList=false then([t],[x])else([],[]):List ByteArray×List J).1++(if k=t then([],[])else([k],[vs.headD zeroJ]):List ByteArray×List J).1++(nF t x (d|| !Op.bytesLess k.toList t.toList) ks vs.tail).1) u=_
  rw[Lo,Lo,uV t x u ks vs.tail]
  generalize Op.bytesLess k.toList t.toList=b
  have q:nw (k::ks) u=(decide (k=u)||nw ks u):=by unfold nw;rw[List.any_cons]
  rw[q]
  by_cases h:t=u
  ·subst h
   rw[dP rfl,dP rfl]
   have B:nw (if k=t then([],[])else([k],[vs.headD zeroJ]):List ByteArray×List J).1 t=false:=by
    by_cases q:k=t
    ·rw[dP q];rfl
    ·rw[dN q];unfold nw;simp[q]
   rw[B]
   cases d<;>cases b<;>simp[nw]
  ·rw[dN h,dN h]
   have h1:nw (if d=false∧b=false then([t],[x])else([],[]):List ByteArray×List J).1 u=false:=by
    split
    ·unfold nw;simp[h]
    ·rfl
   have B:nw (if k=t then([],[])else([k],[vs.headD zeroJ]):List ByteArray×List J).1 u=decide (k=u):=by
    by_cases q:k=t
    ·rw[dP q,dT (fun e=>h (q.symm.trans e))];rfl
    ·rw[dN q];unfold nw;simp
   rw[h1,B,lh]
theorem AS (u:ByteArray) (q:List (ByteArray×J)):nw (py q).1 u=nw (q.map Prod.fst) u:=by
 suffices h: ∀(n:Nat) (q:List (ByteArray×J)),q.length=n→nw (py q).1 u=nw (q.map Prod.fst) u from h _ q rfl
 intro n
 induction n with
 |zero=>intro q h;rw[ea h];rfl
 |succ n ih=>
  intro q h
  obtain⟨m,t,x,rfl⟩: ∃m t x,q=m++[(t,x)]:=⟨q.dropLast,(q.getLast (by intro e;rw[e]at h;cases h)).1,(q.getLast (by intro e;rw[e]at h;cases h)).2,(ly _).symm⟩
  rw[J1,uV,gl,Lo,←ih m (by simpa using h)]
  by_cases e:t=u
  ·rw[dP e];simp[nw,e]
  ·rw[dN e];simp[nw,e]
def DM (l:List Int) (r:(Nat×Int)⊕(Nat×Int×List (ByteArray×J))) (v:VR):Prop:=match r with
 | .inl (p,er)=>er≠0∧v.2.1=p∧v.2.2.2=er
 | .inr (j,lf,ms)=>v=(.mk 5 0 ⟨#[]⟩ (py ms).2 (py ms).1,d_ l j,lf,0)
theorem rg (l:List Int) (d:Nat): ∀(f g i:Nat) (left:Int) (q:List (ByteArray×J)),i≤l.length→0≤left→l.length<i+f→l.length<i+g→
  DM l (uZ l 125 (BB l d) f i left q) (rD l (nj l d) true (nW l (nj l d) true g false) (d_ l i) left (py q).1 (py q).2)
 |0,g,i,left,q,hi,_,hf,_=>absurd hf (by omega)
 |f+1,0,i,left,q,hi,_,_,hg=>absurd hg (by omega)
 |f+1,g+1,i,left,q,hi,hl,hf,hg=>by
  have Y:=oS hi
  have M:=Io l (d_ l i)
  have G:=FC l (d_ l i)
  rw[uZ]
  unfold rD BB BA
  rw[dP (show(true=true)from rfl),AS]
  obtain⟨Q,W⟩:=yaa (nE l (d_ l i))
  rw[←W]at M G⊢
  by_cases D:Q.2.2≠0
  ·rw[dP D,dP D]
   exact⟨D,rfl,rfl⟩
  ·rw[dN D,dN D]
   have M:=M (by omega)
   have G:=G (by omega)
   by_cases I:nw (q.map Prod.fst) (toS Q.1)=true
   ·rw[dP I,dP I]
    exact⟨show(52:Int)≠0 by decide,rfl,rfl⟩
   ·rw[dN I,dN I]
    dsimp only
    by_cases L:f_ l (d_ l Q.2.1)≠58
    ·rw[dP L,dP L]
     exact⟨show(50:Int)≠0 by decide,rfl,rfl⟩
    ·rw[dN L,dN L]
     have Z:=oS (l:=l) (i:=Q.2.1) G
     have U:=oq (l:=l) (i:=d_ l Q.2.1) (by omega)
     have O:=oS (l:=l) (i:=d_ l Q.2.1+1) U
     have N:=BI l d (d_ l (d_ l Q.2.1+1)) left O.2
     unfold s8
     obtain⟨r,R⟩:=yaa (nj l d (d_ l (d_ l Q.2.1+1)) left)
     rw[←R]at N⊢
     by_cases B:r.2.2.2≠0
     ·rw[dP B,dP B]
      exact⟨B,rfl,rfl⟩
     ·rw[dN B,dN B]
      obtain⟨h1,h2,X,h4⟩:=N (by omega)
      show DM l (if f_ l r.2.1=44 then _ else if f_ l r.2.1=125 then _ else _) _
      rw[dP (show(true=true)from rfl),dP (show(true=true)from rfl)]
      by_cases F:f_ l r.2.1=44
      ·rw[dP F,dN (fun h=>h.1 F)]
       have V:=oq (l:=l) (i:=r.2.1) (by omega)
       rw[nW,dN (by rw[dP (show(true=true)from rfl)];omega),dN (by decide),dN (fun h=>h F),←J1]
       exact rg l d f g (r.2.1+1) r.2.2.1 (q++[(toS Q.1,r.1)]) V X (by omega) (by omega)
      ·rw[dN F]
       by_cases E:f_ l r.2.1=125
       ·rw[dP E,dN (fun h=>h.2 E),←J1]
        rw[nW,dP (by rw[dP (show(true=true)from rfl)];exact E)]
        rfl
       ·rw[dN E,dP ⟨F,E⟩]
        exact⟨show(50:Int)≠0 by decide,rfl,rfl⟩
theorem xH (l:List Int) (d i:Nat) (left:Int) (hi:i<l.length) (D:0≤left) (E:f_ l i=123):
  DM l (if f_ l (d_ l (i+1))=125 then .inr (d_ l (i+1)+1,left,[])else uZ l 125 (BB l d) (l.length+1) (d_ l (i+1)) left []) (nV l (nj l d) i left):=by
 have B:=oS (l:=l) (i:=i+1) hi
 have q:d_ l (d_ l (i+1))=d_ l (i+1):=Is (KX _ _ _ (dQ _))
 unfold nV
 rw[ec E,nW,dP (show(true=true)from rfl)]
 by_cases h:f_ l (d_ l (i+1))=125
 ·rw[dP h,dP h];rfl
 ·rw[dN h,dN h,dP rfl]
  have:=rg l d (l.length+1) l.length (d_ l (i+1)) left [] B.2 D (by omega) (by omega)
  rw[q]at this
  exact this
def OI (W:World) (rb:Nat) (s:ByteArray) (dep:Int) (w:World) (i:Nat) (left:Int) (ms:List (ByteArray×J)):Prop:=
 (∃zs vM,OInv W w rb s dep ms zs vM i (256-left))∧0≤left∧left≤256∧i≤s.size∧(ms.length:Int)+left≤256∧GW W rb
theorem JP {l:List Int} {i:Nat} {ks:List ByteArray} {t:ByteArray} {j:Nat} (h:BA l i ks= .inr (t,j)) (hi:i≤l.length):i<j∧j≤l.length∧t.size≤4*l.length+4∧nw ks t=false:=by
 have B:=oS (l:=l) hi
 unfold BA at h
 split at h
 ·cases h
 ·rename_i D
  split at h
  ·cases h
  ·rename_i q
   injection h with h
   injection h with h1 E
   have:=Io l (d_ l i) (by omega)
   have:=FC l (d_ l i) (by omega)
   have:=J7 l (d_ l i)
   refine⟨by omega,by omega,?_,by rw[←h1];simpa using q⟩
   rw[←h1,qc];exact this
theorem CM (W:World) (D d:Nat) (s:ByteArray) (hs:s.size≤10000) (hd:d≤7) (hv:BL s D d):
  ItemAsk s D 193 #[.pointer (some ⟨W.heap.size,0,none⟩),.pointer (some ⟨W.heap.size+3,0,none⟩),.pointer (some ⟨W.heap.size+1,0,none⟩)] (BB (a_ s) d) (OI W D s (8-(d:Int))) (fun w'=>W.grownBy w' (some D)) where
 rdr:=fun w i left F h=>by obtain⟨⟨zs,I,E⟩,_⟩:=h;exact E.rdr
 left:=fun w i left F h=>⟨h.2.1,h.2.2.1,h.2.2.2.1⟩
 moved:=fun w G i k left F h hk hg L=>by
  obtain⟨⟨zs,I,E⟩,h0,h1,hi,hl,Q⟩:=h
  exact⟨⟨zs,I,E.moved hg L⟩,h0,h1,hk,hl,Q⟩
 gone:=fun w G i left F h hg=>by
  obtain⟨⟨zs,I,E⟩,_⟩:=h
  exact E.gr.trans hg
 more:=fun i left F j X ah hi h0 h1 h=>by
  unfold BB at h
  cases hn:BA (a_ s) i (F.map Prod.fst)with
  |inl e=>rw[hn]at h;cases h
  |inr tj=>
   obtain⟨t,k⟩:=tj
   rw[hn]at h
   dsimp only at h
   have U:=JP hn (by rw[j_];exact hi)
   have aa:=oS (l:=a_ s) (i:=k) U.2.1
   split at h
   ·cases h
   ·rename_i M
    have R:=oq (l:=a_ s) (i:=d_ (a_ s) k) (by omega)
    have Z:=oS (l:=a_ s) (i:=d_ (a_ s) k+1) R
    have ae:=BI (a_ s) d (d_ (a_ s) (d_ (a_ s) k+1)) left Z.2
    split at h
    ·cases h
    ·injection h with h
     injection h with h1 h2
     obtain⟨m1,m2,_⟩:=ae (by omega)
     rw[j_]at m2
     rw[←h1]
     exact⟨by omega,m2⟩
 bad:=fun w i left F p er h B=>by
  obtain⟨⟨zs,I,E⟩,h0,h1,hi,hl,Q⟩:=h
  have ao:=E.flat.length
  have N:=uy D s i (256-left) w I zs E.rdr (Q.grown E.gr) hi (by omega) (by omega) E.row E.far
  rw[E.flat.names]at N
  unfold BB at B
  cases hn:BA (a_ s) i (F.map Prod.fst)with
  |inl e=>
   obtain⟨p',ay⟩:=e
   rw[hn]at B N
   injection B with B
   injection B with V O
   subst V;subst O
   exact NI W w D s _ F zs I _ _ _ _ E N
  |inr tj=>
   obtain⟨t,j⟩:=tj
   rw[hn]at B N
   dsimp only at B
   have U:=JP hn (by rw[j_];exact hi)
   have aa:=oS (l:=a_ s) (i:=j) U.2.1
   have af:j≤s.size:=by have:=U.2.1;rwa [j_]at this
   have aj:d_ (a_ s) j≤s.size:=by have:=aa.2;rwa [j_]at this
   have ab: ∀w,Rdr w D s (j:Nat) (256-left)→Calls prog 129 #[.pointer (some ⟨D,0,none⟩)] w (fun e w'=>e= .returned (.tuple #[])∧pv w w' D s (d_ (a_ s) j:Nat) (256-left)):=fun w L=>wn D s j _ w L af (by omega)
   by_cases M:f_ (a_ s) (d_ (a_ s) j)≠58
   ·rw[dP M]at B
    injection B with B
    injection B with V O
    subst V;subst O
    exact NJ W w D s _ F zs I _ _ _ _ j (d_ (a_ s) j) t E N ab (fun w L=>H2 D s _ _ 58 w L aj (by omega) (by decide) M)
   ·rw[dN M]at B
    have M:f_ (a_ s) (d_ (a_ s) j)=58:=by omega
    have R:=oq (l:=a_ s) (i:=d_ (a_ s) j) (by omega)
    rw[j_]at R
    refine CR W w D s _ (by omega) F zs I _ _ _ _ j (d_ (a_ s) j) t E N ab (fun w L=>Hc D s _ _ 58 w L (by omega) (by decide) M) (fun G ad ag=> ?_)
    rw[show(8-(d:Int)+1)=9-(d:Int)by omega]
    refine(hv (d_ (a_ s) j+1) left G R h0 h1 ad ((Q.grown E.gr).grown ag)).mono fun e w' hp=> ?_
    split at B
    ·rename_i he
     injection B with B
     injection B with V O
     rcases hp with⟨h,_⟩|⟨_,h⟩
     ·exact absurd h he
     ·rw[←V,←O];exact h
    ·cases B
 ok:=fun w i left F Y X ah h B=>by
  obtain⟨⟨zs,I,E⟩,h0,h1,hi,hl,Q⟩:=h
  have ao:=E.flat.length
  have N:=uy D s i (256-left) w I zs E.rdr (Q.grown E.gr) hi (by omega) (by omega) E.row E.far
  rw[E.flat.names]at N
  unfold BB at B
  cases hn:BA (a_ s) i (F.map Prod.fst)with
  |inl e=>rw[hn]at B;cases B
  |inr tj=>
   obtain⟨t,j⟩:=tj
   rw[hn]at B N
   dsimp only at B
   have U:=JP hn (by rw[j_];exact hi)
   have aa:=oS (l:=a_ s) (i:=j) U.2.1
   have af:j≤s.size:=by have:=U.2.1;rwa [j_]at this
   have aj:d_ (a_ s) j≤s.size:=by have:=aa.2;rwa [j_]at this
   have ab: ∀w,Rdr w D s (j:Nat) (256-left)→Calls prog 129 #[.pointer (some ⟨D,0,none⟩)] w (fun e w'=>e= .returned (.tuple #[])∧pv w w' D s (d_ (a_ s) j:Nat) (256-left)):=fun w L=>wn D s j _ w L af (by omega)
   have aq:t.size≤9223372036854775807:=by have:=U.2.2.1;rw[j_]at this;omega
   by_cases M:f_ (a_ s) (d_ (a_ s) j)≠58
   ·rw[dP M]at B;cases B
   ·rw[dN M]at B
    have M:f_ (a_ s) (d_ (a_ s) j)=58:=by omega
    have R:=oq (l:=a_ s) (i:=d_ (a_ s) j) (by omega)
    have Z:=oS (l:=a_ s) (i:=d_ (a_ s) j+1) R
    have ae:=BI (a_ s) d (d_ (a_ s) (d_ (a_ s) j+1)) left Z.2
    have ai:=Ka (a_ s) d (d_ (a_ s) (d_ (a_ s) j+1)) left
    rw[j_]at R
    have au: ∀w,Rdr w D s (d_ (a_ s) j:Nat) (256-left)→Calls prog 188 #[.pointer (some ⟨D,0,none⟩),.int .u8 58] w (fun e w'=>e= .returned (.tuple #[])∧pv w w' D s (d_ (a_ s) j+1:Nat) (256-left)):=fun w L=>Hc D s _ _ 58 w L (by omega) (by decide) M
    split at B
    ·cases B
    ·rename_i he
     injection B with B
     injection B with V O
     injection O with O e3
     obtain⟨m1,m2,m3,m4⟩:=ae (by omega)
     have ai:=ai (by omega) Z.2
     have ap: ∀G,Rdr G D s (d_ (a_ s) j+1:Nat) (256-left)→w.grownBy G (some D)→Calls prog 128 #[.pointer (some ⟨D,0,none⟩),.int .i64 (8-(d:Int)+1)] G (fun e w'=> ∃v q,e= .returned v∧RepS w' (fun b=>G.heap.size≤b) (nj (a_ s) d (d_ (a_ s) (d_ (a_ s) j+1)) left).1 v∧q≤s.size∧d_ (a_ s) q=Y∧pv G w' D s (q:Nat) (256-X)):=fun G ad ag=>by
      rw[show(8-(d:Int)+1)=9-(d:Int)by omega]
      refine(hv (d_ (a_ s) j+1) left G R h0 h1 ad ((Q.grown E.gr).grown ag)).mono fun e w' hp=> ?_
      rcases hp with⟨_,h⟩|⟨h,_⟩
      ·rw[←V,←O];exact h
      ·exact absurd h he
     have ax: ∀e w',DR W D s (8-(d:Int)) F t (nj (a_ s) d (d_ (a_ s) (d_ (a_ s) j+1)) left).1 Y (256-X) e w'→e= .returned (.tuple #[])∧ ∃q,q≤s.size∧d_ (a_ s) q=Y∧OI W D s (8-(d:Int)) w' q X ah:=fun e w' hx=>by
      obtain⟨ak,am,q,av,hq,ar,aw⟩:=hx
      refine⟨av,q,hq,ar,⟨ak,am,by rw[←e3];exact aw⟩,by omega,by omega,hq,?_,Q⟩
      rw[←e3,dS,js]
      omega
     exact(EQ W w D s _ (by omega) F zs I (by omega) _ _ _ j (d_ (a_ s) j) t aq _ Y E N ab au ap).mono ax
def DP (ms:List (ByteArray×J)):Prop:= ∀(w:World) (vM:Value) (zs:List MC) (S:Nat→Prop),(∀b,S b→b<w.heap.size)→FlatM w S ms zs→RowM w vM zs→
 Calls prog 85 #[vM] w (fun e w'=> ∃v',e= .returned v'∧RepS w' (fun b=>w.heap.size≤b) (.mk 5 0 ⟨#[]⟩ (py ms).2 (py ms).1) v'∧Below w.heap.size w w')
theorem q7 (W:World) (q:Nat) (s:ByteArray) (B i n:Int) (E:Rdr W q s i n):
  OInv W ((((W.alloc (.cells #[.pointer (some ⟨q,0,none⟩)] 227)).alloc (.cells #[.int .i64 B] 3)).alloc (.cells zeros5.toArray 63)).alloc (.cells #[.slice none 0 0] 174)) q s B [] [] (.slice none 0 0) i n:=by
 have F:=E.lt
 have g1:=dO W (.cells #[.pointer (some ⟨q,0,none⟩)] 227) none
 have D:=dO (W.alloc (.cells #[.pointer (some ⟨q,0,none⟩)] 227)) (.cells #[.int .i64 B] 3) none
 have g3:=dO ((W.alloc (.cells #[.pointer (some ⟨q,0,none⟩)] 227)).alloc (.cells #[.int .i64 B] 3)) (.cells zeros5.toArray 63) none
 have g4:=dO (((W.alloc (.cells #[.pointer (some ⟨q,0,none⟩)] 227)).alloc (.cells #[.int .i64 B] 3)).alloc (.cells zeros5.toArray 63)) (.cells #[.slice none 0 0] 174) none
 refine⟨?_,?_,?_,?_,ft _ _ _ _,rfl,((((g1.trans D).trans g3).trans g4).but _),F,by simp,(((Blk.grownN (Blk.grownN (Blk.grownN (Blk.grownN E g1) D) g3) g4)))⟩
 ·exact Blk.grownN (Blk.grownN (Blk.grownN (qb W rfl [.pointer (some ⟨q,0,none⟩)] _) D) g3) g4
 ·exact Blk.grownN (Blk.grownN (qb _ (by simp) [.int .i64 B] _) g3) g4
 ·exact Blk.grownN (qb _ (by simp) zeros5 _) g4
 ·exact qb _ (by simp) [.slice none 0 0] _
theorem xz (s:ByteArray) (E d:Nat) (hs:s.size≤10000) (hd:d≤7) (hv:BL s E d) (i:Nat) (left:Int) (w:World) (hi:i<s.size) (h0:0≤left) (h1:left≤256) (W:Rdr w E s i (256-left)) (hg:GW w E) (ai:f_ (a_ s) i=123)
  (X: ∀j N q,(if f_ (a_ s) (d_ (a_ s) (i+1))=125 then .inr (d_ (a_ s) (i+1)+1,left,[])else uZ (a_ s) 125 (BB (a_ s) d) (s.size+1) (d_ (a_ s) (i+1)) left []:(Nat×Int)⊕(Nat×Int×List (ByteArray×J)))= .inr (j,N,q)→DP q):
  Calls prog 166 #[.pointer (some ⟨E,0,none⟩),.int .i64 (8-(d:Int))] w (ValPost w E s (nV (a_ s) (nj (a_ s) d) i left)):=by
 have am:=dM (j_ s)
 have I:=xH (a_ s) d i left (by rw[am.out];exact hi) h0 ai
 rw[am.out]at I
 obtain⟨M,hM⟩:=yaa (nV (a_ s) (nj (a_ s) d) i left)
 rw[←hM]at I⊢
 obtain⟨r,V⟩:=yaa ((if f_ (a_ s) (d_ (a_ s) (i+1))=125 then .inr (d_ (a_ s) (i+1)+1,left,[])else uZ (a_ s) 125 (BB (a_ s) d) (s.size+1) (d_ (a_ s) (i+1)) left []:(Nat×Int)⊕(Nat×Int×List (ByteArray×J))))
 rw[←V]at I X
 have ak:=dM I
 have HO:=dM X
 have ah:=q7 w E s (8-(d:Int)) i _ W
 have Y:=rc s E 193 #[.pointer (some ⟨w.heap.size,0,none⟩),.pointer (some ⟨w.heap.size+3,0,none⟩),.pointer (some ⟨w.heap.size+1,0,none⟩)] (BB (a_ s) d) _ _ (CM w E d s hs hd hv)
  (gJ lK (by kernel_rfl) rfl) (8-(d:Int)) 125 (by omega) (by decide) (by decide) i left [] _ ⟨⟨[],.slice none 0 0,ah⟩,h0,h1,by omega,by simp;omega,hg⟩ hi (by omega)
 rw[←V]at Y
 have aq:=dM Y
 have HR:=dM W
 have aw: ∀(fn:Fn) (first aj:Array Value) (w:World),(Instr.makeFunc fn first aj).run prog w= .ok (.func fn first aj) w:=fun _ _ _ _=>rfl
 clear I hM V ah Y W hg ai hv X
 go_enter func166,ntmps166
 go_wp2_with fail
 refine aq.out.mono ?_
 intro e U ht
 rcases r with⟨p,er⟩|⟨j,N,q⟩
 ·obtain⟨rfl,ag⟩:=ht
  have ar:=dM ag
  have F:Hid (er≠0∧M.2.1=p∧M.2.2.2=er):=dM ak.out
  clear ag
  go_wp2
  exact⟨rfl,.inr ⟨by rw[F.out.2.2];exact F.out.1,by rw[F.out.2.1,F.out.2.2],ar.out⟩⟩
 ·obtain⟨rfl,⟨zs,Z,G⟩,l0,l1,Q,hvl,_⟩:=ht
  have F:Hid (M=(.mk 5 0 ⟨#[]⟩ (py q).2 (py q).1,d_ (a_ s) j,N,0)):=dM ak.out
  have L:=dM G
  have HC:=dM (HO.out j N q rfl U Z zs (fun b=>b<U.heap.size) (fun b h=>h) (G.flat.keeps (Keeps.refl _ _) (fun b _ h=>h)) G.row)
  have k5:U.cell? ⟨w.heap.size+3,0,none⟩=some Z:=G.c5.cell 0
  have av:=G.sz
  clear G
  go_wp2_with fail
  refine HC.out.mono ?_
  rintro e D ⟨v',rfl,O,R⟩
  obtain⟨vk,A,c9,rfl, -,⟨K9,d9,rfl, -, -⟩, -, -⟩:=O.open
  obtain⟨x0,af⟩: ∃a,a=(J.mk 5 0 ⟨#[]⟩ (py q).2 (py q).1).kind:=⟨_,rfl⟩
  obtain⟨x1,ae⟩: ∃a,a=(J.mk 5 0 ⟨#[]⟩ (py q).2 (py q).1).n:=⟨_,rfl⟩
  obtain⟨x2,ad⟩: ∃a,a=(J.mk 5 0 ⟨#[]⟩ (py q).2 (py q).1).s:=⟨_,rfl⟩
  obtain⟨x3,ab⟩: ∃a,a=(J.mk 5 0 ⟨#[]⟩ (py q).2 (py q).1).l.length:=⟨_,rfl⟩
  obtain⟨x4,aa⟩: ∃a,a=(J.mk 5 0 ⟨#[]⟩ (py q).2 (py q).1).k.length:=⟨_,rfl⟩
  rw[←af,←ae,←ad,←ab,←aa]at O⊢
  clear af ae ad ab aa
  have B:Blk D (w.heap.size+2) 63 zeros5:=L.out.c4.below R (by omega)
  have ap:=dM (Blk.below L.out.rdr R L.out.rdr.lt)
  have au:=dM (od R (some E))
  obtain⟨b0,b1,b2,b3,b4⟩:D.cell? ⟨w.heap.size+2,0,none⟩=some (.int .i64 0)∧D.cell? ⟨w.heap.size+2,1,none⟩=some (.int .i64 0)∧D.cell? ⟨w.heap.size+2,2,none⟩=some (.string ⟨#[]⟩)∧D.cell? ⟨w.heap.size+2,3,none⟩=some (.slice none 0 0)∧D.cell? ⟨w.heap.size+2,4,none⟩=some (.slice none 0 0):=⟨B.cell 0,B.cell 1,B.cell 2,B.cell 3,B.cell 4⟩
  obtain⟨f0,f1,f2,f3,f4⟩:D.frozen? ⟨w.heap.size+2,0,none⟩=false∧D.frozen? ⟨w.heap.size+2,1,none⟩=false∧D.frozen? ⟨w.heap.size+2,2,none⟩=false∧D.frozen? ⟨w.heap.size+2,3,none⟩=false∧D.frozen? ⟨w.heap.size+2,4,none⟩=false:=⟨B.frozen 0,B.frozen 1,B.frozen 2,B.frozen 3,B.frozen 4⟩
  have HF:=dM (BP B (.int .i64 x0) (.int .i64 x1) (.string x2) (.slice A x3 c9) (.slice K9 x4 d9))
  have ao:=dM O
  have ax:=L.out.lt
  clear B R O k5
  go_wp2
  refine dW (BH results166 _ _ (w.heap.size+2) _ _ _ rfl HF.out.1 ed rfl m8) rfl ?_
  have gr:=HF.out.2
  exact .inl ⟨by rw[F.out],_,j,rfl,by rw[F.out];exact RepS.keeps (Keeps.grown gr (fun b (h:_≤b) e=>by injection e with e;omega)) (fun b (h:_≤b) _=>show w.heap.size≤b by omega) _ _ ao.out,Q,by rw[F.out],(L.out.gr.trans au.out).andThen gr (by intro j Q;injection Q with Q;left;omega),by rw[F.out];exact Blk.grown ap.out gr (by intro e;injection e with e;omega)⟩
theorem H3 (kind n:Int) (s:ByteArray):Sm (.mk kind n s [] []):= .mk (by simp) (by simp) (fun x q=>by cases q)
theorem wl:Sm zeroJ:=H3 _ _ _
theorem ui (t:ByteArray) (x:J) (F:Sm x): ∀(ks:List ByteArray) (vs:List J) (d:Bool),(∀y∈vs,Sm y)→
  (nF t x d ks vs).1.length≤ks.length+(if d then 0 else 1)∧(nF t x d ks vs).2.length≤ks.length+(if d then 0 else 1)∧ ∀y∈(nF t x d ks vs).2,Sm y
 |[],vs,false,_=>by rw[nF];exact⟨by simp,by simp,fun y hy=>by rw[eh.1 hy];exact F⟩
 |[],vs,true,_=>by rw[nF];exact⟨by simp,by simp,fun y hy=>by cases hy⟩
 |k::ks,vs,d,h=>by
  have M: ∀y∈vs.tail,Sm y:=fun y hy=>h y (List.mem_of_mem_tail hy)
  have N:Sm (vs.headD zeroJ):=by
   cases vs with
   |nil=>exact wl
   |cons v r=>exact h v (by simp)
  obtain⟨E,D,i3⟩:=ui t x F ks vs.tail (d|| !Op.bytesLess k.toList t.toList) M
  rw[nF]
  dsimp only
  revert E D i3
  generalize Op.bytesLess k.toList t.toList=b
  intro E D i3
  have L: ∀(p:Prop) [Decidable p],((if p then([t],[x])else([],[]):List ByteArray×List J).1.length≤if p then 1 else 0)∧((if p then([t],[x])else([],[]):List ByteArray×List J).2.length≤if p then 1 else 0)∧ ∀y∈(if p then([t],[x])else([],[]):List ByteArray×List J).2,Sm y:=fun p _=>by
   by_cases q:p
   ·simp[q,F]
   ·simp[q]
  have I:((if k=t then([],[])else([k],[vs.headD zeroJ]):List ByteArray×List J).1.length≤1)∧((if k=t then([],[])else([k],[vs.headD zeroJ]):List ByteArray×List J).2.length≤1)∧ ∀y∈(if k=t then([],[])else([k],[vs.headD zeroJ]):List ByteArray×List J).2,Sm y:=by
   by_cases q:k=t
   ·simp[q]
   ·rw[dN q];exact⟨by simp,by simp,fun y hy=>by rw[eh.1 hy];exact N⟩
  have G: ∀(A B C K:Nat),(A≤if d=false∧b=false then 1 else 0)→B≤1→(C≤K+if(d|| !b)=true then 0 else 1)→A+B+C≤K+1+if d=true then 0 else 1:=by
   intro A B C K x y z
   cases d<;>cases b<;>simp at x z⊢ <;>omega
  obtain⟨a1,a2,a3⟩:=L (d=false∧b=false)
  obtain⟨R,Q,O⟩:=I
  refine⟨?_,?_,fun y hy=> ?_⟩
  ·rw[dS,dS];exact G _ _ _ _ a1 R E
  ·rw[dS,dS];exact G _ _ _ _ a2 Q D
  ·rcases fA.1 hy with hy|hy
   ·rcases fA.1 hy with hy|hy
    ·exact a3 y hy
    ·exact O y hy
   ·exact i3 y hy
theorem yP {l:List Int} {D:Nat→Int→VR} {i:Nat} {left:Int} (F: ∀i left,i<l.length→0≤left→left≤256→Sm (D i left).1) (h0:0≤left) (h1:left≤256):Sm (mT l D i left).1:=by
 have q: ∀v p,Sm v→Sm (pj l (left-1) v p).1:=fun v p E=>by
  unfold pj;split
  ·exact wl
  ·exact E
 unfold mT
 by_cases B:pA (f_ l i)=true
 ·rw[dN (by rw[B];simp)]
  have G:i<l.length:=oq (by intro e;rw[e]at B;revert B;decide)
  split
  ·exact wl
  ·split
   ·split
    ·exact wl
    ·split
     ·exact H3 _ _ _
     ·exact wl
   ·split
    ·exact q _ _ wl
    ·split
     ·exact q _ _ (H3 _ _ _)
     ·split
      ·exact q _ _ (H3 _ _ _)
      ·split
       ·exact q _ _ (H3 _ _ _)
       ·exact F i (left-1) G (by omega) (by omega)
 ·rw[dP B];exact wl
theorem KP (l:List Int) (val:Nat→Int→VR) (obj:Bool) (B: ∀i left,i≤l.length→0≤left→left≤256→Sm (val i left).1) (D: ∀i left,i≤l.length→Moves l i left (val i left)) (F: ∀i left,i≤l.length→(val i left).2.2.2=0→(val i left).2.2.1<left):
  ∀(f:Nat) (first:Bool) (i:Nat) (left:Int) (ks:List ByteArray) (vs:List J),i≤l.length→0≤left→(vs.length:Int)+left≤256→(ks.length:Int)+left≤256→(∀x∈vs,Sm x)→Sm (nW l val obj f first i left ks vs).1
 |0,first,i,left,ks,vs,_,_,_,_,_=>by rw[nW];exact wl
 |f+1,first,i,left,ks,vs,hi,h0,h1,h2,hs=>by
  have M: ∀i t,i≤l.length→Sm (s8 l val obj (nW l val obj f false) i left t ks vs).1:=fun i t hi=>by
   unfold s8
   split
   ·exact wl
   ·rename_i Z
    obtain⟨W,L,I,V⟩:=D i left hi (by omega)
    have U:=F i left hi (by omega)
    have N:=B i left hi h0 (by omega)
    by_cases q:f_ l (val i left).2.1≠44∧f_ l (val i left).2.1≠(if obj=true then 125 else 93)
    ·rw[dP q];exact wl
    ·rw[dN q]
     split
     ·obtain⟨R,Q,O⟩:=ui t (val i left).1 N ks vs false hs
      refine KP l val obj B D F f false _ _ _ _ L I ?_ ?_ O
      ·simp at Q;omega
      ·simp at R;omega
     ·refine KP l val obj B D F f false _ _ _ _ L I ?_ (by omega) (fun y hy=> ?_)
      ·rw[dS,js];omega
      ·rcases fA.1 hy with hy|hy
       ·exact hs y hy
       ·rw[eh.1 hy];exact N
  have G: ∀i,i≤l.length→Sm (rD l val obj (nW l val obj f false) i left ks vs).1:=fun i hi=>by
   unfold rD
   split
   ·split
    ·exact wl
    ·rename_i Y
     have X:=FC l i (by omega)
     split
     ·exact wl
     ·split
      ·exact wl
      ·rename_i aa
       have E:=oq (l:=l) (i:=d_ l (nE l i).2.1) (by omega)
       exact M _ _ (oS E).2
   ·exact M _ _ hi
  rw[nW]
  by_cases q:f_ l i=(if obj=true then 125 else 93)
  ·rw[dP q];exact .mk (by omega) (by omega) hs
  ·rw[dN q]
   split
   ·exact G i hi
   ·split
    ·exact wl
    ·rename_i ab
     have E:=oq (l:=l) (i:=i) (by omega)
     exact G _ (oS E).2
theorem qD (l:List Int): ∀(d i:Nat) (left:Int),0≤left→left≤256→Sm (nj l d i left).1
 |0,i,left,h0,h1=>by rw[nj];exact yP (fun _ _ _ _ _=>wl) h0 h1
 |d+1,i,left,h0,h1=>by
  rw[nj]
  refine yP (fun i left hi h0 h1=> ?_) h0 h1
  unfold nV
  exact KP l _ _ (fun i left _ h0 h1=>qD l d i left h0 h1) (fun i left hi=>BI l d i left hi) (fun i left hi B=>Ka l d i left B hi) _ _ _ _ _ _ (oS hi).2 h0 (by simp;omega) (by simp;omega) (fun x q=>by cases q)
end Go.Proofs.YtceddodfddlncaaGreatDoor
