
import Derived.RangeFuncNested
import Derived.RangeFuncBound
import Derived.RangeFuncCalls
import Derived.RangeFuncLeaves
import Derived.Shelf.RegionOpen
import Derived.OwnWalkIn
import Derived.TacticsInMore
import Derived.LoopNIn
import Derived.LoopIn
import Derived.RangeFuncBox
import Derived.Test.YtceddodfddlncaaGreatDoorJv04
set_option maxRecDepth 100000
set_option maxHeartbeats 16000000
set_option linter.all false
namespace Go.Proofs.YtceddodfddlncaaGreatDoor
open Go Go.RowKit Go.Shelf Tryz
def kY:=@results_none
def lQ:=@callsIn_wide
attribute [local go_sem] Oper.semAt_some
abbrev Pl (l:List Int):Type:={p:Nat//p<l.length∧(nd (l.drop p)).1≠ -1}
def pU {l:List Int} (x:Pl l):Nat:=x.1+(nd (l.drop x.1)).2
def yH {l:List Int} (pre:List (Pl l)):Nat:=(pre.getLast?.map pU).getD 0
@[simp] theorem oU {l:List Int} (pre:List (Pl l)) (x:Pl l):yH (pre++[x])=pU x:=by simp[yH]
inductive Chain (l:List Int):List (Pl l)→Prop
 |nil:Chain l []
 |snoc {pre:List (Pl l)} {x:Pl l}:Chain l pre→x.1=yH pre→Chain l (pre++[x])
theorem sj {l:List Int} (x:Pl l):x.1<pU x∧pU x≤l.length∧pU x≤x.1+4:=by
 have h:=yK x.2.2
 have q:(l.drop x.1).length=l.length-x.1:=eq
 have:=x.2.1
 unfold pU
 omega
theorem Chain.len {l:List Int} {q:List (Pl l)} (h:Chain l q):q.length≤yH q∧yH q≤l.length:=by
 induction h with
 |nil=>simp[yH]
 | @snoc q x h1 h2 ih=>
  have:=sj x
  rw[oU,dS,eu,fO]
  omega
abbrev GL {l:List Int} (x:Pl l):Array Value:= #[.int .i64 (x.1:Int),.int .i64 (nd (l.drop x.1)).1]
theorem Fo (s:ByteArray) (w:World):
  Calls prog 212 #[.string s] w fun e w'=>e= .returned (.func (.func 221) #[] #[.pointer (some ⟨w.heap.size,0,none⟩)])∧w'=w.alloc (.cells #[.string s] 9):=by
 go_enter func212,ntmps212
 go_wp2
 go_ret
 exact⟨rfl,rfl⟩
def KpS (n₀ Bs:Nat) (W W':World):Prop:=Below n₀ W W'∧W'.heap[Bs]? =W.heap[Bs]?
theorem KpS.refl (q B:Nat) (W:World):KpS q B W W:=⟨dU _ _,rfl⟩
theorem KpS.trans {q D:Nat} {A B C:World} (h:KpS q D A B) (k:KpS q D B C):KpS q D A C:=⟨h.1.trans k.1,k.2.trans h.2⟩
theorem KpS.below {B q:Nat} {W D:World} (h:Below W.heap.size W D) (E:B≤W.heap.size) (F:q<W.heap.size):KpS B q W D:=⟨h.mono E,h.block q F⟩
theorem KpS.b {B D:Nat} {w:World} (E:B≤w.heap.size) (I:D<w.heap.size) (W:World) (l:Nat) (o q:Obj) (F:w.heap.size≤l) (h:W.heap[l]? =some o) (h1:o.isCells=false) (G:o.isWalk=false):KpS B D W (W.putObj l q):=
 ⟨belowK_b E W l o q F h h1 G,World.putObj_heap_other (by omega)⟩
theorem yr (n:Nat) (hn:1≤n) (D I:Nat) (s:ByteArray) (w:World) (aq:I≤w.heap.size) (av:6<I) (hm:Marks w) (Z:w.cell? ⟨D,0,none⟩=some (.string s)) (hs:s.size≤9223372036854775807):
  SeqStopsK Fence.wide n prog 221 #[.pointer (some ⟨D,0,none⟩)] (GL (l:=a_ s)) (KpS I D) (fun xs=>Chain (a_ s) xs∧yH xs=na (a_ s)) (fun q=>Chain (a_ s) q) s.size w:=fun l J Jx W R hJ aK hY h0=>by
 have ae:Marks W:=hm.below R
 have Y:W.cell? ⟨D,0,none⟩=some (.string s):=(R.cell (p:=⟨D,0,none⟩) (nc Z)).trans Z
 have aL:D<W.heap.size:=nc Y
 have aI:I≤W.heap.size:=dV aq R.size
 have HM:=dM ae
 have HC:=dM Y
 have HJ:=dM hJ
 have HY:=dM hY
 clear ae Y hJ hY hm Z R
 refine callsIn_of_wp func221 rfl trivial ?_ rfl
 simp only[ntmps221,List.size_toArray,eu,fO,Nat.reduceAdd,Nat.reduceSub,Array.replicate_succ,Array.replicate_zero,List.push_toArray,List.append_toArray,fs,ff]
 gi_wp2
 gi_loopw [3] (fun v wr=> ∃q:List (Pl (a_ s)),Chain (a_ s) q∧v= .int .i64 (yH q:Int)∧na (a_ s)=yH q+na ((a_ s).drop (yH q))∧J q wr∧KpS I D W wr) (fun v _=>s.size-(intOf v).toNat)
 case atStart=>exact⟨[],.nil,rfl,by simp[yH],h0,KpS.refl _ _ _⟩
 case round=>
  obtain⟨q,X,rfl,ah,aj,M⟩:=hrel
  have af:=X.len
  rw[j_]at af
  have ab:=dM X
  have U:=dM ah
  have ay:=dM M
  have aJ:wr.cell? ⟨D,0,none⟩=some (.string s):=(jC (a:=⟨D,0,none⟩) M.2).trans HC.out
  have aH:W.heap.size≤wr.heap.size:=M.1.size
  have az:=dM (show Marks wr from Blk.below HM.out M.1 av)
  clear X ah M
  obtain⟨p,E⟩:=yaa (yH q)
  rw[←E]at af U⊢
  by_cases au:p<s.size
  ·have Q:a_ (s.extract p s.size)=(a_ s).drop p:=by rw[pF,eo (by rw[j_];omega)]
   have L:=dM (Bn (s.extract p s.size) wr az.out (by rw[←j_,Q,eq,j_];omega))
   rw[Q]at L
   have am:=dM (fun(w':World) (B:Below wr.heap.size wr w')=>HJ.out q wr w' none aj (od B none) (fun r e=>by cases e))
   by_cases G:(nd ((a_ s).drop p)).1= -1
   ·obtain⟨m,N⟩:=yaa ((nd ((a_ s).drop p)).2)
    rw[G,←N]at L
    have HX:=dM G
    have HP:=dM E
    clear G N Q E
    gi_wp2_with (refine⟨trivial,?_⟩;gi_at_call 222;refine(lQ.2 L.out).mono ?_;rintro e w' ⟨rfl,B⟩;have aa:=dM (am.out w' B);clear B)
    refine⟨fun _ h=>(by cases h),?_⟩
    gi_wp2
    refine dW (kY rfl _ _ _) rfl ?_
    exact⟨⟨_,rfl⟩,.inl ⟨q,⟨ab.out,by rw[U.out,JJ HX.out,HP.out];rfl⟩,aa.out⟩⟩
   ·have ad:p<(a_ s).length:=by rw[j_];exact au
    have hq: ∃x:Pl (a_ s),x.1=p:=⟨⟨p,ad,G⟩,rfl⟩
    obtain⟨x,F⟩:=hq
    have ao:Hid (Chain (a_ s) (q++[x])):=dM (.snoc ab.out (by rw[F,E]))
    have aE:Hid (na (a_ s)=pU x+na ((a_ s).drop (pU x))):=dM (by
     have:=Bp U.out G
     rw[←F]at this
     exact this)
    have V:=sj x
    rw[F,j_]at V
    have O:pU x=p+(nd ((a_ s).drop p)).2:=by unfold pU;rw[F]
    have aw:=dM (fun(w':World) (B:Below wr.heap.size wr w')=>HY.out q x w' (am.out w' B) (by omega))
    obtain⟨m,N⟩:=yaa ((nd ((a_ s).drop p)).2)
    obtain⟨y,hy⟩:=yaa ((nd ((a_ s).drop p)).1)
    rw[←N]at L O
    rw[←hy]at L
    have aG:(y== -1)=false:=by rw[hy,dY];exact G
    have aD:Hid (GL x= #[.int .i64 (p:Int),.int .i64 y]):=dM (by unfold GL;rw[F,hy])
    have ax:=dM O
    have ar:=V
    rw[O]at V
    have aP:=dM E
    have aO:=dM F
    clear G N Q E hy O F ad ar
    gi_wp2_with (refine⟨trivial,?_⟩;gi_at_call 222;refine(lQ.2 L.out).mono ?_;rintro e w1 ⟨rfl,B⟩;obtain⟨fn,tmps,aN,aM,ap,hR⟩:=aw.out w1 B;rw[aD.out]at ap;have HR:=dM hR;have aF:=dM B;clear hR B)
    refine HR.out.mono ?_
    rintro e W3 (⟨rfl,ak,ag⟩|⟨rfl,ai⟩)
    ·have aC:=dM ak
     have aA:Hid (KpS I D W W3):=dM (ay.out.trans ((KpS.below aF.out (by omega) (by omega)).trans ag))
     clear ak ag
     gi_wp2
     go_roundw
     case rel=>exact⟨q++[x],ao.out,by rw[oU,ax.out];go_num,by rw[oU];exact aE.out,aC.out,aA.out⟩
     case measure=>simp[intOf];omega
    ·have aB:=dM ai
     clear ai
     gi_wp2
     refine dW (kY rfl _ _ _) rfl ?_
     exact⟨⟨_,rfl⟩,.inr ⟨_,ao.out,aB.out⟩⟩
  ·obtain rfl:p=s.size:=by omega
   have HE:Hid (yH q=na (a_ s)):=dM (by
    rw[U.out,show(a_ s).drop s.size=[]from fo (by rw[j_];exact dQ _),←E];rfl)
   have aa:=dM aj
   clear E
   gi_wp2
   go_end0
   exact⟨⟨_,rfl⟩,.inl ⟨q,⟨ab.out,HE.out⟩,aa.out⟩⟩
attribute [local go_sem] Oper.semAt_some
def LV (pos:Int) (w:World) (e:Ending) (w':World):Prop:=
 ∃b,e= .returned (.iface 188 (.pointer (some ⟨b,0,none⟩)))∧w'.cell? ⟨b,0,none⟩=some (.int .i64 pos)∧w'.cell? ⟨b,0+1,none⟩=some (.iface 54 (.int .i64 30))∧w.heap.size≤b∧Below w.heap.size w w'
def yE (xs:List Int) (w:World) (e:Ending) (w':World):Prop:=
 (na xs=xs.length∧e= .returned .nilIface∧Below w.heap.size w w')∨(na xs≠xs.length∧LV (na xs:Int) w e w')
theorem ru (A:Option Addr) (xs:List Int) (n c:Nat) (w:World) (B:Marks w) (G:xs.length=n) (ap:n≤4611686018427387904) (U:Bytes xs) (V:Lies w A xs):
  Calls prog 197 #[.slice A n c] w (yE xs w):=by
 have ai:(convert 46 9 (.slice A n c)).run prog (w.alloc (.cells #[.int .i64 0] 3))= .ok (.string (toS xs)) (w.alloc (.cells #[.int .i64 0] 3)):=zK A xs n c _ G (V.below (nO _ _))
 have ad:Hid (a_ (toS xs)=xs):=dM (th U)
 have N:(toS xs).size=n:=by rw[qc,G]
 obtain⟨S,Z⟩:=yaa (toS xs)
 rw[←Z]at ai ad N
 have ab:=dM N
 have Q:=dM G
 have HM:=dM B
 have ah:6<w.heap.size:=B.lt
 clear Z N G V U B
 refine(lQ (n:=4)).1 ?_
 refine callsIn_of_wp_marks func197 rfl trivial ?_ rfl
 simp only[ntmps197,List.size_toArray,eu,fO,Nat.reduceAdd,Nat.reduceSub,Array.replicate_succ,Array.replicate_zero,List.push_toArray,List.append_toArray,fs,ff]
 gi_wp2_with (refine⟨trivial,?_⟩;gi_at_call 212;refine(lQ.2 (Fo S _)).mono ?_;rintro e w1 ⟨rfl,rfl⟩)
 have c0:=Boxed.new w 3 (.int .i64 0)
 have c1:=Boxed.new (w.alloc (.cells #[.int .i64 0] 3)) 9 (.string S)
 rw[World.size_alloc]at c1
 have aa:Below w.heap.size w ((w.alloc (.cells #[.int .i64 0] 3)).alloc (.cells #[.string S] 9)):=((dU _ w).alloc (dQ _) _).alloc (by simp) _
 refine wpIn_rangeFunc_ownG rfl (by omega) (gf:=221) (lb:= #[.pointer (some ⟨w.heap.size+1,0,none⟩)]) rfl trivial (gJ func221 (by kernel_rfl) rfl)
  (yr (4-1) (by omega) (w.heap.size+1) w.heap.size S _ (by simp;omega) ah (HM.out.below aa) c1.cell (by have:=ab.out;omega)) KpS.trans (KpS.b (by simp;omega) (by simp)) (dU _ _) (fun _=>rfl)
  (fun M W=>Boxed W w.heap.size 3 (.int .i64 (yH M:Int))∧Below w.heap.size w W)
  (fun _ _ _=>False)
  (OwnFrom.and (Own.from (boxed_own _ _ _) _) (ownFrom_below (dQ _) (by simp;omega)))
  (fun _ _ _ _ _ hs _ _=>hs)
  ⟨c0.alloc _,aa⟩
  (fun x=>{tmps:= #[.slice A n c,undef,.nilIface,.pointer (some ⟨w.heap.size,0,none⟩),.int .i64 (x.1:Int),.int .i64 (nd ((a_ S).drop x.1)).1,.slice A n c,.string S,.func (.func 221) #[] #[.pointer (some ⟨w.heap.size+1,0,none⟩)],.int .i64 (x.1:Int),.int .i64 (nd ((a_ S).drop x.1)).1,undef,undef,undef,undef,undef,undef,undef,undef,undef,undef,undef,undef,undef],defers:=[]}) ?am ?ak ?done ?stop
 case am=>
  intro l x W K L
  gi_wp2
  exact L
 case ak=>
  rintro l M x W ⟨q,F⟩ _
  have Y:=q.cell
  have hf:=q.frozen
  have ae:=dM q
  have O:=yK x.2.2
  have af:=sj x
  have HS:=dM (fun W:World=>Hh (nd ((a_ S).drop x.1)).1 _ O.2.1 W)
  have HX:Hid ((x.1:Int)+((nd ((a_ S).drop x.1)).2:Int)=(pU x:Int)):=dM (by unfold pU;omega)
  have ao:x.1<n:=by have:=x.2.1;have:=j_ S;have:=ab.out;omega
  have E:=dM F
  obtain⟨m,B⟩:=yaa ((nd ((a_ S).drop x.1)).2)
  have aq:m≤4:=by rw[B];exact O.2.2.2.2.1
  rw[←B]at HS HX
  clear O af F B q
  gi_wp2_with (refine⟨trivial,?_⟩;gi_at_call 213;refine(CallsIn.inRound l (lQ.2 (HS.out _))).mono ?_;rintro e w' ⟨rfl,rfl⟩)
  refine⟨(KeepsOthers.setCell _ _ _).from _,⟨(dU w.heap.size W).setCell (p:=⟨w.heap.size,0,none⟩) (dQ _) _,kG W ⟨w.heap.size,0,none⟩ _ _ (by simp)⟩,?_,E.out.setCell (p:=⟨w.heap.size,0,none⟩) (dQ _) _⟩
  rw[oU,←HX.out]
  exact ae.out.set _
 case done=>
  rintro D ys W hD ⟨au,X⟩ ⟨q,F⟩ L
  have Y:=q.cell
  rw[X,ad.out]at Y
  have E:=dM F
  have ae:=dM q
  have R:=dM L
  have ag:=vQ xs
  rw[Q.out]at ag
  clear F q L X
  by_cases ar:na xs<n
  ·gi_wp2
   have I:=(KeepsOthers.alloc W (.cells #[.int .i64 (na xs:Int),.iface 54 (.int .i64 30)] 190)).same D _ R.out rfl
   have aj:=E.out.alloc E.out.size (.cells #[.int .i64 (na xs:Int),.iface 54 (.int .i64 30)] 190)
   refine⟨by simp,.inl ⟨_,_,rfl,run_takeDeferred I,?_⟩⟩
   refine⟨_,results_tmp rfl _ _ _,.inr ⟨by rw[Q.out];omega,W.heap.size,rfl,?_,?_,E.out.size,aj.trans (belowK_b (w:=w) (dQ _) _ D _ _ (by simp at hD;omega) I rfl rfl)⟩⟩
   ·exact cell_kept (by simp) (grownBy_putObj' _ D (.deferred none)) (fun r e=>by cases e;exact⟨_,I,rfl⟩)
   ·exact cell_kept (by simp) (grownBy_putObj' _ D (.deferred none)) (fun r e=>by cases e;exact⟨_,I,rfl⟩)
  ·gi_wp2
   refine⟨by simp,.inl ⟨_,_,rfl,run_takeDeferred R.out,?_⟩⟩
   exact⟨_,results_tmp rfl _ _ _,.inl ⟨by rw[Q.out];omega,rfl,E.out.trans (belowK_b (w:=w) (dQ _) W D _ _ (by simp at hD;omega) R.out rfl rfl)⟩⟩
 case stop=>
  rintro D c M W _ _ h _
  exact h.elim
end Go.Proofs.YtceddodfddlncaaGreatDoor
