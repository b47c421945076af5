
import Derived.Test.YtceddodfddlncaaGreatDoorJv14
import Derived.Test.YtceddodfddlncaaGreatDoorJv21
set_option maxRecDepth 100000
set_option maxHeartbeats 16000000
set_option linter.all false
namespace Go.Proofs.YtceddodfddlncaaGreatDoor
open Go Go.RowKit Tryz
def my:=@ntmps66
def mP:=@func66
theorem vF (a:Addr) (c:Nat) (w:World):
  Calls prog 169 #[.slice (some a) 0 c] w fun e w'=> ∃q,e= .returned q∧w'.ownsRow w.heap.size 63 5 q 0 []∧Below w.heap.size w w':=by
 obtain⟨i0,hi,G,F,E⟩:=gw ss
 have R: ∀(w:World) (a:Option Addr) (n c B D:Nat),(binOp .eql 60 (.slice a n c) (.slice none B D)).run prog w= .ok (.bool a.isNone) w:=fun w a n c B D=>Lib.run_eql_slice_nil w _ _ a n c B D fY
 go_enter func169,ntmps169
 go_wp2_with(at_builtin;refine fm _ rfl _ _ 60 rfl w.heap.size 63 i0 (.agg zeros5.toArray) 5 80 fY hi G F E rfl (by decide) _ _ _ rfl (World.ownsRow_made w #[] 0 (dQ _) (eN _) rfl) a 0 c [] rfl rfl (by intro j u N;simp at N) (by intro u I;simp at I) (by unfold maxLen;omega) (by omega) (by simp) ?_)
 intro q Q L O U
 go_wp2
 go_ret
 exact⟨q,rfl,by simpa using L,((dU _ w).alloc (dQ _) _).grown O (by simp) (by intro k M;simp[Value.ownBlock]at M;omega)⟩
theorem yj (W:World) (S:Nat→Prop) (R: ∀b,S b→b<W.heap.size) (l:List J) (V:l.length≤1000000) (A:Option Addr) (c:Nat) (Q:l≠[]→ ∃b o,A=some ⟨b,o,none⟩∧S b∧b<W.heap.size∧RepCS W S b o l):
  Calls prog 169 #[.slice A l.length c] W fun e w'=> ∃q xs,e= .returned q∧w'.ownsRow W.heap.size 63 5 q l.length xs∧FlatJ w' S l xs∧Below W.heap.size W w':=by
 by_cases E:l=[]
 ·subst E
  cases A with
  |none=>
   refine(show Calls prog 169 #[.slice none 0 c] W _ from AnyE.slices_Clone_nil Tryz.cloneJ 0 c W).mono ?_
   rintro e w' ⟨rfl,rfl⟩
   exact⟨_,[],rfl,ft _ _ _ _,rfl,dU _ _⟩
  |some a=>
   refine(vF a c W).mono ?_
   rintro e w' ⟨q,rfl,D,B⟩
   exact⟨q,[],rfl,D,rfl,B⟩
 ·obtain⟨b,o,rfl,X,U,N⟩:=Q E
  obtain⟨xs,F,O,M⟩:=N.flat
  obtain⟨i0,hi,L,I,G⟩:=gw ss
  have:=AnyE.slices_Clone Tryz.cloneJ i0 _ 5 80 hi L I G rfl (by decide) Tryz.sizeOf63 b o l.length c xs W F.length (by unfold maxLen;omega) (by omega) O M
  refine(show Calls prog 169 #[.slice (some ⟨b,o,none⟩) l.length c] W _ from this).mono ?_
  rintro e w' ⟨q,rfl,D,_,B⟩
  exact⟨q,xs,rfl,D,F.keeps (Keeps.below B (fun b h _=>R b h)) (fun b h _=>h),B⟩
inductive Sm:J→Prop
 |mk {kind n:Int} {s:ByteArray} {l:List J} {k:List ByteArray}:l.length≤1000000→k.length≤1000000→(∀x∈l,Sm x)→Sm (.mk kind n s l k)
def Cl (W:World) (j:J) (e:Ending) (w':World):Prop:= ∃v',e= .returned v'∧RepS w' (fun b=>W.heap.size≤b) j v'∧Below W.heap.size W w'
def zD (j:J):Prop:= ∀(S:Nat→Prop) (W:World) (v:Value),(∀b,S b→b<W.heap.size)→RepS W S j v→Calls prog 98 #[v] W (Cl W j)
def Jk (W:World) (l:List J) (n:Nat) (e:Ending) (w':World):Prop:=
 ∃A c,e= .returned (.slice A n c)∧(l≠[]→ ∃b o,A=some ⟨b,o,none⟩∧W.heap.size≤b∧b<w'.heap.size∧RepCS w' (fun b=>W.heap.size≤b) b o l)∧Below W.heap.size W w'
theorem vG (l:List J) (hl:l.length≤1000000) (au: ∀x∈l,zD x) (W:World) (S:Nat→Prop) (hS: ∀b,S b→b<W.heap.size) (A:Option Addr) (c:Nat) (hc:l≠[]→ ∃b o,A=some ⟨b,o,none⟩∧S b∧b<W.heap.size∧RepCS W S b o l):
  Calls prog 133 #[.slice A l.length c] W (Jk W l l.length):=by
 have aF:=dM au
 have HS:=dM hS
 have ax:=dM (yj W S hS l hl A c hc)
 obtain⟨n,hn⟩:=yaa l.length
 have Y:=dM hn
 rw[←hn]at ax hl⊢
 clear au hS hc hn
 go_enter func133,ntmps133
 go_wp2_with fail
 refine ax.out.mono ?_
 rintro e w1 ⟨v,xs,rfl,R,hf,hb⟩
 have HF:=dM hf
 have HB:=dM hb
 rcases um R with rfl|⟨g,aw,rfl⟩
 ·have h0:n=0:=by
   rcases R.2 with⟨_,h⟩|⟨_,_,_,h,_⟩
   ·exact h
   ·simp at h
  have aE:Hid (l=[]):=dM (ea (by rw[←Y.out];exact h0))
  subst h0
  clear R hf hb
  go_wp2_with fail
  go_loopw[10] (fun v wr=>v= .int .i64 0∧wr=w1) (fun _ _=>0)
  case atStart=>exact⟨rfl,rfl⟩
  case round=>
   obtain⟨rfl,rfl⟩:=hrel
   go_wp2
   go_ret
   exact⟨_,_,rfl,fun h=>absurd aE.out h,HB.out⟩
 ·have aD:=dM R
  clear R hf hb
  go_wp2_with fail
  go_loopw[10] (fun v wr=> ∃(j:Nat) (ys zs:List Value),v= .int .i64 (j:Int)∧j≤n∧CInv W wr S l j g aw ys zs) (fun v _=>n-(intOf v).toNat)
  case atStart=>exact⟨0,[],xs,rfl,eN _,by rw[←Y.out];exact aD.out,rfl,HF.out,HB.out⟩
  case round=>
   obtain⟨j,ys,zs,rfl,hj,B⟩:=hrel
   have q:=dM B
   by_cases aA:j<n
   ·have ab:j<l.length:=by rw[←Y.out];exact aA
    have aq:=B.old
    rw[eD ab]at aq
    obtain⟨z0,z1,z2,z3,z4,ad,rfl,hx,_⟩:=aq
    have F:ys.length=j*5:=by rw[B.new.length,ep,fK (by omega)]
    have az:=hx.open
    obtain⟨vk,Z,c2,e,_,⟨X,V,ek,_⟩,_⟩:=az
    simp only[gY,ig,gN,jq]at e
    obtain⟨Q,ai⟩: ∃a,a=l[j].kind:=⟨_,rfl⟩
    obtain⟨O,ah⟩: ∃a,a=l[j].n:=⟨_,rfl⟩
    obtain⟨N,ag⟩: ∃a,a=l[j].s:=⟨_,rfl⟩
    obtain⟨M,af⟩: ∃a,a=l[j].l.length:=⟨_,rfl⟩
    obtain⟨L,ae⟩: ∃a,a=l[j].k.length:=⟨_,rfl⟩
    rw[←ai,←ah,←ag,←af]at e
    rw[←ae]at ek
    obtain⟨rfl,rfl,rfl,rfl,e4⟩:=e
    subst ek;subst e4
    have ho:=B.own
    have I: ∀k u,(ys++ .int .i64 Q:: .int .i64 O:: .string N:: .slice Z M c2:: .slice X L V::ad)[k]? =some u→wr.cell? ⟨g,k,none⟩=some u:=fun k u hu=>by have:=ho.cells rfl k u hu;rwa [eW,eL]at this
    have e0:wr.cell? ⟨g,j*5,none⟩=some (.int .i64 Q):=I _ _ (by rw[ez (by omega),F,hZ];rfl)
    have e1:wr.cell? ⟨g,j*5+1,none⟩=some (.int .i64 O):=I _ _ (by rw[ez (by omega),F,show j*5+1-j*5=1 by omega];rfl)
    have e2:wr.cell? ⟨g,j*5+2,none⟩=some (.string N):=I _ _ (by rw[ez (by omega),F,show j*5+2-j*5=2 by omega];rfl)
    have e3:wr.cell? ⟨g,j*5+3,none⟩=some (.slice Z M c2):=I _ _ (by rw[ez (by omega),F,show j*5+3-j*5=3 by omega];rfl)
    have e4:wr.cell? ⟨g,j*5+4,none⟩=some (.slice X L V):=I _ _ (by rw[ez (by omega),F,show j*5+4-j*5=4 by omega];rfl)
    have ay:=B.bel.size
    have HX:=dM (RepS.keeps (Keeps.grown (dO wr (.cells #[.int .i64 Q,.int .i64 O,.string N,.slice Z M c2,.slice X L V] 63) none) (fun b _ e=>by cases e)) (fun b h _=>h) _ _ hx)
    have HC:=dM (aF.out l[j] (fe ab) S (wr.alloc (.cells #[.int .i64 Q,.int .i64 O,.string N,.slice Z M c2,.slice X L V] 63)) _ (fun b h=>by have:=HS.out b h;simp;omega) HX.out)
    have aB:(j:Int)<(n:Int):=by omega
    have aG:(0:Int)≤(j:Int):=by omega
    clear B hx F ai ah ag af ae ho I
    go_wp2_with fail
    refine HC.out.mono ?_
    rintro e D ⟨v',rfl,aa,av⟩
    obtain⟨vk,A3,c3,rfl, -,⟨K3,d3,rfl, -, -⟩, -, -⟩:=aa.open
    obtain⟨x0,ap⟩: ∃a,a=l[j].kind:=⟨_,rfl⟩
    obtain⟨x1,ao⟩: ∃a,a=l[j].n:=⟨_,rfl⟩
    obtain⟨x2,am⟩: ∃a,a=l[j].s:=⟨_,rfl⟩
    obtain⟨x3,ak⟩: ∃a,a=l[j].l.length:=⟨_,rfl⟩
    obtain⟨x4,aj⟩: ∃a,a=l[j].k.length:=⟨_,rfl⟩
    rw[←ap,←ao,←am,←ak,←aj]at aa⊢
    have E:=dM ((nO wr (.cells #[.int .i64 Q,.int .i64 O,.string N,.slice Z M c2,.slice X L V] 63)).trans (av.mono (by simp)))
    have aC:=dM (q.out.step HS.out ab rfl E.out (RepS.keeps (Keeps.refl _ D) (fun b (h:_≤b) _=>show wr.heap.size≤b by simp at h;omega) _ _ aa))
    have U:g<wr.heap.size:=(q.out.own.lt g rfl).2
    have q0:=(E.out.cell (p:=⟨g,j*5,none⟩) U).trans e0
    have q1:=(E.out.cell (p:=⟨g,j*5+1,none⟩) U).trans e1
    have q2:=(E.out.cell (p:=⟨g,j*5+2,none⟩) U).trans e2
    have q3:=(E.out.cell (p:=⟨g,j*5+3,none⟩) U).trans e3
    have q4:=(E.out.cell (p:=⟨g,j*5+4,none⟩) U).trans e4
    have G:D.ownsRow W.heap.size 63 5 (.slice (some ⟨g,0,none⟩) l.length aw) l.length _:=q.out.own.kept (od E.out none) (.inr (by simp[Value.ownBlock]))
    obtain⟨f0,f1,f2,f3,f4⟩:D.frozen? ⟨g,j*5,none⟩=false∧D.frozen? ⟨g,j*5+1,none⟩=false∧D.frozen? ⟨g,j*5+2,none⟩=false∧D.frozen? ⟨g,j*5+3,none⟩=false∧D.frozen? ⟨g,j*5+4,none⟩=false:=⟨F8 G _,F8 G _,F8 G _,F8 G _,F8 G _⟩
    clear ap ao am ak aj aa av e0 e1 e2 e3 e4 G
    go_wp2
    go_roundw
    case rel=>exact⟨j+1,_,ad,by go_num,by omega,aC.out⟩
    case measure=>simp[intOf];omega
   ·obtain rfl:j=n:=by omega
    have aB: ¬(j:Int)<(j:Int):=by omega
    have ay:=B.bel.size
    clear B
    go_wp2
    go_ret
    refine⟨_,_,rfl,fun _=>⟨g,0,rfl,(q.out.own.lt g rfl).1,(q.out.own.lt g rfl).2,?_⟩,q.out.bel⟩
    have ar:=q.out.new
    have hz:zs=[]:=by have:=q.out.old.length;rw[eq,←Y.out,hZ,k7]at this;exact ea this
    rw[eo (by rw[←Y.out];exact dQ _)]at ar
    refine ar.cells (fun b h _=>h.1) fun k u hu=> ?_
    have:=q.out.own.cells rfl k u (by rw[hz,fM];exact hu)
    rwa [eW]at this
theorem MV {S T:Nat→Prop} {W B:World} (q:Keeps S W B) (E: ∀b,S b→b<W.heap.size→T b) {b:Nat} (F:S b) (D:b<W.heap.size): ∀(l:List J) (o:Nat),RepCS W S b o l→RepCS B T b o l:=fun l=>by
 induction l with
 |nil=>intro o _;rw[RepCS];trivial
 |cons x r ihr=>
  intro o h
  rw[RepCS]at h⊢
  obtain⟨⟨v,h1,I⟩,G⟩:=h
  exact⟨⟨v,RepS.keeps q E x v h1,I.keeps F D q⟩,ihr (o+5) G⟩
theorem AU (W:World) (a b:Obj):W.grownBy ((W.alloc a).alloc b) none:=(dO W a none).trans (dO _ b none)
theorem yi (W:World) (S:Nat→Prop) (Z: ∀b,S b→b<W.heap.size) (k:List ByteArray) (X:k.length≤1000000) (v:Value) (h:RepKS W S k v):
  Calls prog 132 #[v] W fun e w'=> ∃q,e= .returned q∧(q= .slice none 0 0∨ ∃g F,q= .slice (some ⟨g,0,none⟩) k.length F)∧RepKS w' (fun b=>W.heap.size≤b) k q∧Below W.heap.size W w':=by
 obtain⟨A,c,rfl,N,Q⟩:=h
 have I: ∀(w':World) (q:Value),(∀t∈k,t.size≤9223372036854775807)→w'.ownsRow W.heap.size 9 1 q k.length (k.map Value.string)→Below W.heap.size W w'→(q= .slice none 0 0∨ ∃g F,q= .slice (some ⟨g,0,none⟩) k.length F)∧RepKS w' (fun b=>W.heap.size≤b) k q∧Below W.heap.size W w':=fun w' q G B E=>
  ⟨by rcases B.2 with⟨h,_⟩|⟨g,F,aa,h,_⟩;exact .inl h;exact .inr ⟨g,F,h⟩,qX B (fun b h=>h) N G,E⟩
 by_cases L:k=[]
 ·subst L
  cases A with
  |none=>
   refine(Tryz.slices_Clone_string_nil 0 c W).mono ?_
   rintro e w' ⟨rfl,rfl⟩
   exact⟨_,rfl,I _ _ (fun t D=>by cases D) (ft _ _ _ _) (dU _ _)⟩
  |some a=>
   refine(Tryz.slices_Clone_string_zero a c W).mono ?_
   rintro e w' ⟨q,rfl,B,_,E⟩
   exact⟨_,rfl,I _ _ (fun t D=>by cases D) B E⟩
 ·obtain⟨b,o,rfl,Y,V,M⟩:=Q L
  have G: ∀t∈k,t.size≤9223372036854775807:=fun t D=>by
   obtain⟨i,hi,rfl⟩:=i7.1 D
   obtain⟨u,h1,U,_⟩:=M i hi
   rw[dZ hi]at h1
   injection h1 with h1
   rw[h1];exact U
  refine(Tryz.slices_Clone_string b o k.length c k W (dQ _) (by omega) (fun j O=> ?_)).mono ?_
  ·obtain⟨u,h1,_,R⟩:=M j O
   rw[R,dR,h1];rfl
  ·rintro e w' ⟨q,rfl,B,_,E⟩
   rw[g9]at B
   exact⟨_,rfl,I _ _ G B E⟩
theorem Dv (kind n:Int) (s:ByteArray) (l:List J) (k:List ByteArray) (hl:l.length≤1000000) (G:k.length≤1000000) (aC: ∀x∈l,zD x):zD (.mk kind n s l k):=fun S W v hS hv=>by
 rw[RepS]at hv
 obtain⟨vk,A,c,rfl,hs,am,aR,hc⟩:=hv
 have aS:=am
 obtain⟨K,d,rfl,_,_⟩:=aS
 obtain⟨I,V⟩: ∃w,w=(W.alloc (.cells #[.int .i64 kind,.int .i64 n,.string s,.slice A l.length c,.slice K k.length d] 63)).alloc (.cells zeros5.toArray 63):=⟨_,rfl⟩
 have g1:W.grownBy I none:=by rw[V];exact AU _ _ _
 have aF:Blk I W.heap.size 63 [.int .i64 kind,.int .i64 n,.string s,.slice A l.length c,.slice K k.length d]:=by rw[V];exact Blk.grownN (qb W rfl [.int .i64 kind,.int .i64 n,.string s,.slice A l.length c,.slice K k.length d] _) (dO _ _ none)
 have aE:Blk I (W.heap.size+1) 63 zeros5:=by rw[V];exact qb _ (by simp) zeros5 _
 have ay:I.heap.size=W.heap.size+2:=by rw[V];simp
 have af:Keeps S W I:=Keeps.grown g1 (fun b _ e=>by cases e)
 have aL:=dM (yi I S (fun b h=>by have:=hS b h;omega) k G _ (am.keeps af (fun b h _=>h)))
 have aN:=dM aF
 have bd:=dM aE
 have bi:=dM g1
 have N:=dM ay
 have HS:=dM hS
 have ba:=dM hc
 have a8:=dM aC
 have a7:=dM af
 have av:=dM V
 obtain⟨L,aj⟩: ∃a,a=l.length:=⟨_,rfl⟩
 obtain⟨B,aa⟩: ∃a,a=k.length:=⟨_,rfl⟩
 have aK:=dM aj
 have aZ:=dM aa
 rw[←aj,←aa]at aN av⊢
 rw[←aa]at aL
 clear g1 aF aE ay af hS hc aC am V aj aa
 go_enter func98,ntmps98
 go_wp2_with fail
 rw[show((W.alloc (.cells #[.int .i64 kind,.int .i64 n,.string s,.slice A L c,.slice K B d] 63)).alloc (.cells #[.int .i64 0,.int .i64 0,.string ⟨#[]⟩,.slice none 0 0,.slice none 0 0] 63))=I from av.out.symm]
 refine aL.out.mono ?_
 rintro e O ⟨v2,rfl,aQ,ai,Q⟩
 obtain⟨D,c2,rfl⟩: ∃D c2,v2= .slice D B c2:=by obtain⟨D,c2,h,_⟩:=ai;exact⟨D,c2,by rw[aZ.out];exact h⟩
 have ad:Blk O W.heap.size 63 [.int .i64 kind,.int .i64 n,.string s,.slice A L c,.slice K B d]:=aN.out.below Q (by have:=N.out;omega)
 have aI:Blk O (W.heap.size+1) 63 zeros5:=bd.out.below Q (by have:=N.out;omega)
 have f4:=ad.frozen 4
 have q4:O.cell? ⟨W.heap.size,4,none⟩=some (.slice K B d):=ad.cell 4
 obtain⟨E,ah⟩: ∃w,w=O.setCell ⟨W.heap.size,4,none⟩ (.slice D B c2):=⟨_,rfl⟩
 have aq:Blk E W.heap.size 63 [.int .i64 kind,.int .i64 n,.string s,.slice A L c,.slice D B c2]:=by rw[ah];exact ad.setCell 4 _
 have X:O.grownBy E (some W.heap.size):=by rw[ah];exact ou _ _ _ _
 have aH:Blk E (W.heap.size+1) 63 zeros5:=aI.grown X (by simp)
 have ag:W.heap.size+2≤E.heap.size:=by have:=N.out;have:=Q.size;have:=X.size;omega
 have ax:Keeps S W E:=(a7.out.trans (Keeps.below Q (fun b h aB=>by have:=HS.out b h;have:=N.out;omega))).trans (Keeps.grown X (fun b h e=>by injection e with e;have:=HS.out b h;omega))
 have aD:Below W.heap.size W E:=by
  have h1:Below W.heap.size W I:=by rw[av.out];exact((dU _ W).alloc (dQ _) _).alloc (by simp) _
  exact(h1.trans (Q.mono (by have:=N.out;omega))).grown X (by have:=Q.size;have:=N.out;omega) (by intro k G;injection G with G;omega)
 have az:RepKS E (fun b=>W.heap.size+2≤b) k (.slice D B c2):=ai.keeps (Keeps.grown X (fun b h e=>by injection e with e;have:=N.out;replace h:I.heap.size≤b:=h;omega)) (fun b h _=>by have:=N.out;replace h:I.heap.size≤b:=h;show W.heap.size+2≤b;omega)
 have aM:=dM (vG l hl a8.out E S (fun b h=>by have:=HS.out b h;omega) A c (fun ak=>by
  obtain⟨b,o,e,ap,aB,hr⟩:=ba.out ak
  exact⟨b,o,e,ap,by have:=HS.out b ap;omega,MV ax (fun _ h _=>h) ap aB l o hr⟩))
 have aJ:=dM ah
 have bc:=dM aq
 have aW:=dM aH
 have au:=dM ag
 have bb:=dM aD
 have aY:=dM az
 rw[←aK.out]at aM
 have l3:(O.setCell ⟨W.heap.size,4,none⟩ (.slice D B c2)).cell? ⟨W.heap.size,3,none⟩=some (.slice A L c):=by rw[←aJ.out];exact aq.cell 3
 clear aQ ai ad aI aq X aH ag ax aD az Q
 go_wp2_with fail
 rw[show(O.setCell ⟨W.heap.size,4,none⟩ (.slice D B c2))=E from aJ.out.symm]
 clear l3 q4 f4
 refine aM.out.mono ?_
 rintro e q ⟨Z,c3,rfl,aA,ab⟩
 have M:=bc.out.below ab (by have:=au.out;omega)
 have F:=aW.out.below ab (by have:=au.out;omega)
 obtain⟨w5,Y⟩: ∃w,w=q.setCell ⟨W.heap.size,3,none⟩ (.slice Z L c3):=⟨_,rfl⟩
 have ar:q.grownBy w5 (some W.heap.size):=by rw[Y];exact ou _ _ _ _
 have aU:Blk w5 W.heap.size 63 [.int .i64 kind,.int .i64 n,.string s,.slice Z L c3,.slice D B c2]:=by rw[Y];exact M.setCell 3 _
 have aG:Blk w5 (W.heap.size+1) 63 zeros5:=F.grown ar (by simp)
 have f3:=M.frozen 3
 have q3:=M.cell 3
 obtain⟨a0,a1,a2,a4⟩:q.cell? ⟨W.heap.size,0,none⟩=some (.int .i64 kind)∧q.cell? ⟨W.heap.size,1,none⟩=some (.int .i64 n)∧q.cell? ⟨W.heap.size,2,none⟩=some (.string s)∧q.cell? ⟨W.heap.size,4,none⟩=some (.slice D B c2):=⟨M.cell 0,M.cell 1,M.cell 2,M.cell 4⟩
 obtain⟨b0,b1,b2,b3,b4⟩:q.cell? ⟨W.heap.size+1,0,none⟩=some (.int .i64 0)∧q.cell? ⟨W.heap.size+1,1,none⟩=some (.int .i64 0)∧q.cell? ⟨W.heap.size+1,2,none⟩=some (.string ⟨#[]⟩)∧q.cell? ⟨W.heap.size+1,3,none⟩=some (.slice none 0 0)∧q.cell? ⟨W.heap.size+1,4,none⟩=some (.slice none 0 0):=⟨F.cell 0,F.cell 1,F.cell 2,F.cell 3,F.cell 4⟩
 obtain⟨g0,g1,g2,g3,g4⟩:q.frozen? ⟨W.heap.size+1,0,none⟩=false∧q.frozen? ⟨W.heap.size+1,1,none⟩=false∧q.frozen? ⟨W.heap.size+1,2,none⟩=false∧q.frozen? ⟨W.heap.size+1,3,none⟩=false∧q.frozen? ⟨W.heap.size+1,4,none⟩=false:=⟨F.frozen 0,F.frozen 1,F.frozen 2,F.frozen 3,F.frozen 4⟩
 have ao:=BP aG (.int .i64 kind) (.int .i64 n) (.string s) (.slice Z L c3) (.slice D B c2)
 rw[Y]at ao
 have HF:=dM ao
 have aw:=dM ab
 have a6:=dM aA
 have aX:=dM Y
 have ae:=dM ar
 clear M F ar aU aG ao ab aA Y
 go_wp2
 refine dW (BH results98 _ _ (W.heap.size+1) _ _ _ rfl HF.out.1 ed rfl m8) rfl ?_
 have R:=HF.out.2
 rw[←aX.out]at R⊢
 have aV: ∀U,w5.grownBy U (some (W.heap.size+1))→Cl W (.mk kind n s l k) (.returned (.agg #[.int .i64 kind,.int .i64 n,.string s,.slice Z L c3,.slice D B c2])) U:=fun U R=>by
  have ag:=au.out
  have bh:=aw.out.size
  have bg:=ae.out.size
  have bf:=R.size
  have aP:Keeps (fun b=>W.heap.size+2≤b) E U:=((Keeps.below aw.out (fun b _ h=>h)).trans (Keeps.grown ae.out (fun b (h:_≤b) e=>by injection e with e;omega))).trans (Keeps.grown R (fun b (h:_≤b) e=>by injection e with e;omega))
  have aO:Keeps (fun b=>E.heap.size≤b) q U:=(Keeps.grown ae.out (fun b (h:_≤b) e=>by injection e with e;omega)).trans (Keeps.grown R (fun b (h:_≤b) e=>by injection e with e;omega))
  have aT:Below W.heap.size W U:=((bb.out.trans (aw.out.mono (by omega))).grown ae.out (by omega) (by intro k G;injection G with G;omega)).grown R (by omega) (by intro k G;injection G with G;omega)
  refine⟨_,rfl,?_,aT⟩
  rw[RepS]
  refine⟨.slice D B c2,Z,c3,by rw[aK.out],hs,aY.out.keeps aP (fun b (h:_≤b) _=>show W.heap.size≤b by omega),aR,fun ak=> ?_⟩
  obtain⟨b,o,e,h1,h2,h3⟩:=a6.out ak
  exact⟨b,o,e,show W.heap.size≤b by omega,by omega,MV aO (fun b (h:_≤b) _=>show W.heap.size≤b by omega) (show E.heap.size≤b from h1) h2 l o h3⟩
 exact aV _ R
theorem rt: ∀(j:J),Sm j→zD j:=fun j=>by
 induction j using J.ind with
 |h kind n s l k ih=>
  intro h
  cases h with
  |mk h1 h2 h3=>exact Dv kind n s l k h1 h2 fun x q=>ih x q (h3 x q)
theorem sC (name:ByteArray): ∀(k:List ByteArray) (l:List J) (i:Nat),(Lib.idxFromS k name i= -1∧om k l name=none)∨ ∃j:Nat,Lib.idxFromS k name i=((i+j:Nat):Int)∧j<k.length∧om k l name=l[j]?
 |[],l,i=> .inl ⟨rfl,by cases l<;>rfl⟩
 |n::r,l,i=>by
  by_cases h:n=name
  ·refine .inr ⟨0,by simp[Lib.idxFromS,h],by simp,?_⟩
   cases l with
   |nil=>rfl
   |cons x t=>rw[om,dP h];rfl
  ·have hi:Lib.idxFromS (n::r) name i=Lib.idxFromS r name (i+1):=by simp[Lib.idxFromS,h]
   rw[hi]
   cases l with
   |nil=>
    rcases sC name r [] (i+1)with⟨h1,_⟩|⟨j,h1,B,_⟩
    ·exact .inl ⟨h1,rfl⟩
    ·exact .inr ⟨j+1,by rw[h1];congr 1;omega,by simp;omega,by simp[om]⟩
   |cons x t=>
    rw[om,dN h]
    rcases sC name r t (i+1)with⟨h1,q⟩|⟨j,h1,B,q⟩
    ·exact .inl ⟨h1,q⟩
    ·exact .inr ⟨j+1,by rw[h1];congr 1;omega,by simp;omega,by rw[q];simp⟩
theorem RepJ.toS {W:World} {j:J} {v:Value} (h:RepJ W j v):RepS W (fun b=>b<W.heap.size) j v:=RepS.keeps (Keeps.refl _ W) (fun b _ q=>q) _ _ (RepS.ofJ _ _ h)
theorem AN (k:List ByteArray) (v:Value) (name:ByteArray) (W:World) (h:RepK W k v):Calls prog 97 #[v,.string name] W fun e w'=>e= .returned (.int .i64 (Lib.idxFromS k name 0))∧W=w':=by
 obtain⟨A,c,rfl,B,F⟩:=h
 by_cases q:k=[]
 ·subst q
  refine(Tryz.slices_Index_string_empty A c name W).mono ?_
  rintro e w' ⟨rfl,rfl⟩;exact⟨rfl,rfl⟩
 ·obtain⟨b,o,rfl,_,E⟩:=F q
  have:=Tryz.slices_Index_string b o k.length c k name W (dQ _) B (fun j D=>by
   obtain⟨t,h1,_,G⟩:=E j D
   rw[dR,h1];exact G)
  rw[g9]at this
  refine this.mono ?_
  rintro e w' ⟨rfl,rfl⟩;exact⟨rfl,rfl⟩
theorem Dh (a:J) (va:Value) (name:ByteArray) (W:World) (ha:RepJ W a va) (am: ∀x∈a.l,Sm x):
  Calls prog 66 #[va,.string name] W fun e w'=> ∃v,e= .returned (.tuple #[v,.bool (oD a name).isSome])∧RepS w' (fun b=>W.heap.size≤b) ((oD a name).getD zeroJ) v∧Below W.heap.size W w':=by
 obtain⟨vk,A,c,rfl,hs,M,hl,hc⟩:=ha.open
 have R:=dM (fun(X:World) (hW:Below W.heap.size W X)=>AN a.k vk name X (M.below hW))
 obtain⟨K,d,rfl,ax,_⟩:=M.open
 have HC:=dM hc
 have N:=sC name a.k a.l 0
 obtain⟨B,aq⟩:=yaa (Lib.idxFromS a.k name 0)
 rw[←aq]at R N
 obtain⟨s,ao⟩:=yaa a.s
 obtain⟨kd,ae⟩: ∃k,k=a.kind:=⟨_,rfl⟩
 obtain⟨n,ap⟩: ∃k,k=a.n:=⟨_,rfl⟩
 obtain⟨p,Z⟩: ∃k,k=a.l.length:=⟨_,rfl⟩
 obtain⟨q,ad⟩: ∃k,k=a.k.length:=⟨_,rfl⟩
 rw[←ao,←ae,←ap,←Z,←ad]
 rw[←ad]at R ax N
 rw[←Z]at hl
 have HP:=dM Z
 have aj:=dM am
 have Y:Hid ((oD a name)=if kd=5 then om a.k a.l name else none):=dM (by rw[ae];rfl)
 have E:=dM (show Below W.heap.size W ((W.alloc (.cells #[.int .i64 kd,.int .i64 n,.string s,.slice A p c,.slice K q d] 63)).alloc (.cells #[.int .i64 0,.int .i64 0,.string ⟨#[]⟩,.slice none 0 0,.slice none 0 0] 63))from((dU _ _).alloc (dQ _) _).alloc (by simp) _)
 obtain⟨g,hg⟩:=yaa (oD a name)
 rw[←hg]at Y⊢
 clear ha M hc hs ao ae ap Z ad aq am hg
 by_cases F:kd≠5∨B<0∨(p:Int)≤B
 case pos=>
  have HN:Hid (g=none):=dM (by
   rw[Y.out]
   split
   ·rcases N with⟨_,h⟩|⟨j,h1,h2,h3⟩
    ·exact h
    ·rw[h3]
     exact fJ (by have:=HP.out;omega)
   ·rfl)
  rw[HN.out]
  have e5:(kd==5)=decide (kd=5):=by cases h:decide (kd=5)<;>simp_all
  clear N Y HN aj HC e5
  by_cases h5:kd=5
  ·subst h5
   by_cases V:B<0
   ·have d6:decide (B<0)=true:=ec V
    clear F
    go_enter mP,my
    go_wp2_with(go_at_call 97;(with_reducible refine(R.out _ E.out).mono ?_);rintro e w' ⟨rfl,rfl⟩)
    (try simp only[Exit.inBlock,Exit.then])
    refine dW (v:= .tuple #[.agg #[.int .i64 0,.int .i64 0,.string ⟨#[]⟩,.slice none 0 0,.slice none 0 0],.bool false]) ?_ rfl ⟨_,rfl,RepS.zero _ _,E.out⟩
    rw[iR rfl];go_simp
   ·have d6:decide (B<0)=false:=dT V
    have h7:(p:Int)≤B:=by
     rcases F with h|h|h
     ·exact absurd rfl h
     ·exact absurd h V
     ·exact h
    have d7:decide ((p:Int)≤B)=true:=ec h7
    clear F
    go_enter mP,my
    go_wp2_with(go_at_call 97;(with_reducible refine(R.out _ E.out).mono ?_);rintro e w' ⟨rfl,rfl⟩)
    (try simp only[Exit.inBlock,Exit.then])
    refine dW (v:= .tuple #[.agg #[.int .i64 0,.int .i64 0,.string ⟨#[]⟩,.slice none 0 0,.slice none 0 0],.bool false]) ?_ rfl ⟨_,rfl,RepS.zero _ _,E.out⟩
    rw[iR rfl];go_simp
  ·have b5:(kd==5)=false:=by rw[dY];exact h5
   clear F
   go_enter mP,my
   go_wp2_with(go_at_call 97;(with_reducible refine(R.out _ E.out).mono ?_);rintro e w' ⟨rfl,rfl⟩)
   (try simp only[Exit.inBlock,Exit.then])
   refine dW (v:= .tuple #[.agg #[.int .i64 0,.int .i64 0,.string ⟨#[]⟩,.slice none 0 0,.slice none 0 0],.bool false]) ?_ rfl ⟨_,rfl,RepS.zero _ _,E.out⟩
   rw[iR rfl];go_simp
 case neg=>
  obtain⟨h5,V,h7⟩:kd=5∧ ¬B<0∧ ¬(p:Int)≤B:=by
   refine⟨Classical.byContradiction fun h=>F (.inl h),fun h=>F (.inr (.inl h)),fun h=>F (.inr (.inr h))⟩
  subst h5
  obtain⟨j,hj,D,ag⟩: ∃j:Nat,B=(j:Int)∧j<a.l.length∧g=some (a.l.getD j zeroJ):=by
   rcases N with⟨h,_⟩|⟨j,h1,h2,h3⟩
   ·omega
   ·rw[eL]at h1
    have D:j<a.l.length:=by have:=HP.out;omega
    refine⟨j,h1,D,?_⟩
    rw[Y.out,dP rfl,h3,dR,dZ D];rfl
  subst hj
  obtain⟨b,o,rfl,G,ar⟩:=HC.out (fun e=>by rw[e]at D;simp at D)
  obtain⟨v,ab,a0,a1,a2,a3,a4,rfl,c0,c1,c2,c3,c4⟩:=ar.at j D
  have hx:a.l.getD j zeroJ=a.l[j]:=by rw[dR,dZ D];rfl
  rw[hx]at ag
  have aa:=aj.out _ (fe D)
  obtain⟨x,ak⟩:=yaa (a.l[j])
  rw[←ak]at ag ab aa
  subst ag
  have aA:=dM (fun(X:World) (hW:Below W.heap.size W X)=>rt x aa _ X _ (fun b h=>h) (RepJ.toS (RepJ.below hW _ _ ab)))
  obtain⟨L,Q⟩:=yaa (((W.alloc (.cells #[.int .i64 5,.int .i64 n,.string s,.slice (some ⟨b,o,none⟩) p c,.slice K q d] 63)).alloc (.cells #[.int .i64 0,.int .i64 0,.string ⟨#[]⟩,.slice none 0 0,.slice none 0 0] 63)))
  have I:Hid (Below W.heap.size W L):=dM (by rw[Q];exact E.out)
  have y0:=(I.out.cell (p:=⟨b,o+j*5,none⟩) G).trans c0
  have y1:=(I.out.cell (p:=⟨b,o+j*5+1,none⟩) G).trans c1
  have y2:=(I.out.cell (p:=⟨b,o+j*5+2,none⟩) G).trans c2
  have y3:=(I.out.cell (p:=⟨b,o+j*5+3,none⟩) G).trans c3
  have y4:=(I.out.cell (p:=⟨b,o+j*5+4,none⟩) G).trans c4
  have hz:L.heap.size=W.heap.size+2:=by rw[Q];simp
  have ai:Blk L (W.heap.size+1) 63 zeros5:=by rw[Q];exact qb _ (by simp) zeros5 _
  have ay:=dM Q
  have d6:decide ((j:Int)<0)=false:=dT V
  have d7:decide ((p:Int)≤(j:Int))=false:=dT h7
  have aD:(0:Int)≤(j:Int):=by omega
  have aC:(j:Int)<(p:Int):=by omega
  rw[Q]at y0 y1 y2 y3 y4
  clear F N Y aj HC ar ab D hx ak aa c0 c1 c2 c3 c4 Q
  go_enter mP,my
  go_wp2_with(first
   |(go_at_call 97;(with_reducible refine(R.out _ E.out).mono ?_);rintro e w' ⟨rfl,rfl⟩)
   |(go_at_call 98;fail))
  refine(aA.out _ E.out).mono ?_
  rw[←ay.out]
  rintro e w3 ⟨v',rfl,hr,ah⟩
  have av:=dM (And.intro hz hr)
  obtain⟨vk,A3,c9,rfl, -,⟨K3,d9,rfl, -, -⟩, -, -⟩:=RepJ.open (RepS.toJ _ _ hr)
  have au:=ai.below ah ai.lt
  have aw:=yab I ah
  clear hr ah ai
  go_wp2_with(refine nn rfl none rfl _ (.tmp 4) (.tmp 31) rfl (W.heap.size+1) 0 [_,_,_,_,_] rfl rfl _ _ au (by simp[zeros5]) m8 (by intro v hv;simp at hv;rcases hv with rfl|rfl|rfl|rfl|rfl<;>rfl) ?_;intro U O af;rw[nr _ _ (by simp[zeros5])]at O;have aB:=dM (aw.out.grown af aw.out.size (by intro k M;injection M with M;omega));have az:=dM af;clear af au;try go_frame)
  have z0:U.cell? ⟨W.heap.size+1,0,none⟩=some (.int .i64 x.kind):=O.cell 0
  have z1:U.cell? ⟨W.heap.size+1,1,none⟩=some (.int .i64 x.n):=O.cell 1
  have z2:U.cell? ⟨W.heap.size+1,2,none⟩=some (.string x.s):=O.cell 2
  have z3:U.cell? ⟨W.heap.size+1,3,none⟩=some (.slice A3 x.l.length c9):=O.cell 3
  have z4:U.cell? ⟨W.heap.size+1,4,none⟩=some (.slice K3 x.k.length d9):=O.cell 4
  (try simp only[Exit.inBlock,Exit.then])
  refine dW (v:= .tuple #[.agg #[.int .i64 x.kind,.int .i64 x.n,.string x.s,.slice A3 x.l.length c9,.slice K3 x.k.length d9],.bool true]) ?_ rfl ⟨_,rfl,?_,aB.out⟩
  ·rw[iR rfl];go_simp
  ·exact RepS.keeps (Keeps.grown az.out (fun b G e=>by injection e with e;have:=av.out.1;have G:L.heap.size≤b:=G;omega)) (fun b (h:L.heap.size≤b) _=>show W.heap.size≤b from dV I.out.size h) _ _ av.out.2
theorem E0 (a:J) (q:Value) (name:ByteArray) (W:World) (D:RepJ W a q) (B: ∀x∈a.l,Sm x):
  Calls prog 66 #[q,.string name] W fun e w'=> ∃v,e= .returned (.tuple #[v,.bool (oD a name).isSome])∧RepJ w' ((oD a name).getD zeroJ) v∧Below W.heap.size W w':=by
 refine(Dh a q name W D B).mono ?_
 rintro e w' ⟨v,h1,F,E⟩
 exact⟨v,h1,RepS.toJ _ _ F,E⟩
end Go.Proofs.YtceddodfddlncaaGreatDoor
