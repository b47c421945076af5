
import Derived.Test.YtceddodfddlncaaGreatDoorJv10
import Derived.Test.YtceddodfddlncaaGreatDoorJv12
set_option maxRecDepth 100000
set_option maxHeartbeats 16000000
set_option linter.all false
namespace Go.Proofs.YtceddodfddlncaaGreatDoor
open Go Go.RowKit Tryz
theorem G4 (s:ByteArray) (i:Nat):0≤oQ (a_ s) i∧oQ (a_ s) i≤255:=by
 have:=ql s i
 unfold oQ;split<;>omega
theorem sw: ∀n:Fin 256,decide (0≤Lib.indexByte [9,10,13,32] n.val.toUInt8)=zi (n.val:Int):=by decide+kernel
theorem AO {c:Int} (h0:0≤c) (h1:c≤255):0≤Lib.indexByte [9,10,13,32] c.toNat.toUInt8↔zi c=true:=by
 obtain⟨n,rfl⟩:=gv h0
 have:=sw ⟨n,by omega⟩
 rw[kP,←this,eb]
theorem GE (l:List Int) (i:Nat):zi (oQ l i)=zi (f_ l i):=by
 unfold oQ;split
 ·rename_i h;rw[h];decide
 ·rfl
def D6 (w:World) (rb:Nat):Nat:=match w.cell? ⟨rb,1,none⟩with
 |some (.int _ k)=>k.toNat
 |_=>0
theorem Fy {w:World} {q:Nat} {s:ByteArray} {i:Nat} {n:Int} (h:Rdr w q s i n):D6 w q=i:=by
 unfold D6;rw[h.cell 1];simp
theorem GD {l:List Int} {i:Nat} (h:zi (f_ l i)=true):i<l.length:=oq (by intro e;rw[e]at h;revert h;decide)
theorem wn (B:Nat) (s:ByteArray) (i:Nat) (n:Int) (w:World) (h:Rdr w B s i n) (hi:i≤s.size) (hs:s.size≤1000000):
  Calls prog 129 #[.pointer (some ⟨B,0,none⟩)] w fun e w'=>e= .returned (.tuple #[])∧pv w w' B s (d_ (a_ s) i:Nat) n:=by
 have ag:=dM (j_ s)
 have HW:=dM h
 clear h
 go_enter func129,ntmps129
 go_wp2
 go_loopw[] (fun wr=> ∃k:Nat,k≤s.size∧d_ (a_ s) i=d_ (a_ s) k∧w.grownBy wr (some B)∧Rdr wr B s k n) (fun wr=>s.size-D6 wr B)
 case atStart=>exact⟨i,hi,rfl,ov _ _,HW.out⟩
 case round=>
  obtain⟨k,hk,R,V,E⟩:=hrel
  have aa:=dM R
  have ab:=dM V
  have M:=dM E
  have O:=dM (tk B s k n wr E hk hs)
  have U:=Fy E
  have af:=dM U
  obtain⟨⟨c0,c1,c2⟩,f0,f1,f2⟩:=Rdr.cells E
  obtain⟨Z,Y⟩:=G4 s k
  have G:=GE (a_ s) k
  obtain⟨x,Q⟩:=yaa (oQ (a_ s) k)
  rw[←Q]at O Z Y G
  have F:=AO Z Y
  obtain⟨X,I⟩:=yaa (Lib.indexByte [9,10,13,32] x.toNat.toUInt8)
  have N:=dM (fun W:World=>Tryz.strings_IndexByte ⟨#[9,10,13,32]⟩ x W)
  rw[show(⟨#[9,10,13,32]⟩:ByteArray).data.toList=[9,10,13,32]from rfl,←I]at N
  rw[←I]at F
  clear R V E U Q I
  by_cases D:zi (f_ (a_ s) k)=true
  ·have ae:0≤X:=F.2 (G.trans D)
   have ad:=GD D
   rw[ag.out]at ad
   have L:=dM (aa.out.trans (Lp D))
   clear F G D
   go_wp2_with(first|(go_at_call 160;(with_reducible refine O.out.mono ?_);rintro e w' ⟨rfl,q,rfl⟩)|(go_at_call 161;(with_reducible refine(N.out _).mono ?_);rintro e w' ⟨rfl,rfl⟩))
   go_roundw
   case rel=>exact⟨k+1,by omega,L.out,ab.out.trans (oM wr q B 1 _),Rdr.goes (M.out.drewN q) _⟩
   case measure=>
    have h1:=Fy (i:=k+1) (Rdr.goes (M.out.drewN q) ((k+1:Nat):Int))
    have e:((k+1:Nat):Int)=(k:Int)+1:=by omega
    rw[e]at h1
    rw[h1,af.out];omega
  ·have ae: ¬0≤X:=fun h=>D (G.symm.trans (F.1 h))
   have L:Hid (d_ (a_ s) i=k):=dM (aa.out.trans (Is D))
   clear F G D
   go_wp2_with(first|(go_at_call 160;(with_reducible refine O.out.mono ?_);rintro e w' ⟨rfl,q,rfl⟩)|(go_at_call 161;(with_reducible refine(N.out _).mono ?_);rintro e w' ⟨rfl,rfl⟩))
   go_end0
   rw[L.out]
   exact⟨rfl,ab.out.trans (zL q _),M.out.drewN q⟩
theorem KG (q:Nat) (s x:ByteArray) (i:Nat) (n:Int) (w:World) (h:Rdr w q s i n) (hi:i≤s.size) (Y:s.size≤1000000) (hx:x.size≤300) (X: ∀k,(hk:k<x.size)→0<(x[k].toNat:Int)):
  Calls prog 162 #[.pointer (some ⟨q,0,none⟩),.string x] w fun e w'=>
   ((oA (a_ s) i (a_ x)).2=0∧e= .returned (.tuple #[])∧pv w w' q s ((oA (a_ s) i (a_ x)).1:Nat) n)∨
   ((oA (a_ s) i (a_ x)).2≠0∧zF w q ((oA (a_ s) i (a_ x)).1:Nat) (oA (a_ s) i (a_ x)).2 e w'):=by
 have ag:=dM (j_ s)
 have aa:=dM (j_ x)
 have HW:=dM h
 obtain⟨R,N⟩:=yaa (oA (a_ s) i (a_ x))
 rw[←N]
 have af:Hid (R=oA (a_ s) (i+0) ((a_ x).drop 0)):=dM N
 have ad:=dM X
 clear h N X
 go_enter func162,ntmps162
 go_wp2
 go_loopw[7] (fun v wr=> ∃k:Nat,k≤x.size∧i+k≤s.size∧v= .int .i64 (k:Int)∧R=oA (a_ s) (i+k) ((a_ x).drop k)∧w.grownBy wr (some q)∧Rdr wr q s (i+k:Nat) n) (fun v _=>x.size-(intOf v).toNat)
 case atStart=>exact⟨0,eN _,hi,rfl,af.out,ov _ _,HW.out⟩
 case round=>
  obtain⟨k,hk,ab,rfl,Z,B,F⟩:=hrel
  have Q:=dM Z
  have V:=dM B
  have U:=dM F
  clear Z B F
  by_cases L:k<x.size
  ·have M:=o_ x k L
   have I:=ad.out k L
   have D:=Mz (l:=a_ s) (x:=a_ x) (i:=i+k) (k:=k) (by rw[aa.out];exact L)
   rw[M]at D
   by_cases E:f_ (a_ s) (i+k)=(x[k].toNat:Int)
   ·rw[dP E]at D
    have ah:i+k<s.size:=by rw[←ag.out];exact oq (by omega)
    have G:=dM (Q.out.trans D)
    have O:=dM (Hc q s (i+k) n _ wr U.out Y I E)
    have h2:(k:Int)<(x.size:Int):=by omega
    clear M I D E
    go_wp2_with(go_at_call 188;(with_reducible refine O.out.mono ?_);rintro e w2 ⟨rfl,B,F⟩;have W:=dM B;have ae:=dM F;clear B F)
    go_roundw
    case rel=>exact⟨k+1,by omega,by omega,by go_num,G.out,V.out.trans W.out,ae.out⟩
    case measure=>simp[intOf];omega
   ·rw[dN E]at D
    have G:Hid (R=(i+k,50)):=dM (Q.out.trans D)
    have O:=dM (H2 q s (i+k) n _ wr U.out ab Y I E)
    have h2:(k:Int)<(x.size:Int):=by omega
    clear M I D E
    go_wp2_with(go_at_call 188;(with_reducible refine O.out.mono ?_);rintro e w2 ⟨rfl,B⟩;have W:=dM B;clear B)
    rw[G.out]
    exact⟨rfl,.inr ⟨show(50:Int)≠0 by decide,rfl,V.out.trans W.out⟩⟩
  ·obtain rfl:k=x.size:=by omega
   have G:Hid (R=(i+x.size,0)):=dM (by rw[Q.out,fB (by rw[aa.out];exact dQ _)];rfl)
   go_wp2
   go_end0
   rw[G.out]
   exact .inl ⟨rfl,rfl,V.out,U.out⟩
theorem CV {l:List Int} {k i:Nat} {n:Int} (h: ¬nf (f_ l i)<0):nv l (k+1) i n=((nv l k (i+1) (16*n+nf (f_ l i))).1,(nv l k (i+1) (16*n+nf (f_ l i))).2+1):=by rw[nv,dN h]
theorem uJ {l:List Int} {k i:Nat} {n:Int} (h:k=0∨nf (f_ l i)<0):nv l k i n=(n,0):=by
 cases k with
 |zero=>rfl
 |succ k=>rw[nv,dP (by omega)]
theorem ET (l:List Int) (j:Nat) (n:Int) (B:0≤n) (q:n<16^j) (D:j≤4):n≤65535:=by
 have:j=0∨j=1∨j=2∨j=3∨j=4:=by omega
 rcases this with rfl|rfl|rfl|rfl|rfl<;>omega
theorem Cy {n:Int} {j:Nat} {d:Int} (h0:0≤n) (h:n<16^j) (q:d≤15):16*n+d<16^(j+1):=by
 rw[jP];omega
theorem sl (s:ByteArray) (w:World) (hs:s.size≤1000000):
  Calls prog 216 #[.string s] w fun e w'=>e= .returned (.tuple #[.int .i64 (nv (a_ s) 4 0 0).1,.int .i64 ((nv (a_ s) 4 0 0).2:Int)])∧w=w':=by
 have ak:=dM (j_ s)
 go_enter func216,ntmps216
 go_wp2
 go_loop [2,3] (fun u v=> ∃(j:Nat) (n:Int),j≤4∧j≤s.size∧u= .int .i64 n∧v= .int .i64 (j:Int)∧0≤n∧n<16^j∧(nv (a_ s) 4 0 0).1=(nv (a_ s) (4-j) j n).1∧(nv (a_ s) 4 0 0).2=j+(nv (a_ s) (4-j) j n).2) (fun _ v=>4-(intOf v).toNat)
 case atStart=>exact⟨0,0,by omega,by omega,rfl,rfl,by omega,by decide,rfl,by simp⟩
 case round=>
  obtain⟨j,n,Y,ag,rfl,rfl,O,I,h1,V⟩:=hrel
  have N:=dM h1
  have M:=dM V
  have aa:=dM I
  have ad:=ET (a_ s) j n O I Y
  clear h1 V I
  by_cases R:j<4∧j<s.size
  ·obtain⟨af,X⟩:=R
   have Q:(j:Int)<min 4 (s.size:Int):=by omega
   have B:=FY s j X
   have U:=ql s j
   have L:=Jo (f_ (a_ s) j)
   have HC:=dM (fun W:World=>sy (s[j].toNat:Int) W (by omega) (by omega))
   rw[←B]at HC
   have ah:(j:Int)<(s.size:Int):=by omega
   have ai:(0:Int)≤(j:Int):=by omega
   have HG:=dM B
   by_cases F:nf (f_ (a_ s) j)<0
   ·have q:=uJ (l:=a_ s) (k:=4-j) (n:=n) (.inr F)
    have E:Hid ((nv (a_ s) 4 0 0).1=n):=dM (by rw[N.out,q])
    have D:Hid ((nv (a_ s) 4 0 0).2=j):=dM (by rw[M.out,q];rfl)
    have G:nf (f_ (a_ s) j)= -1:=by omega
    rw[G,B]at HC
    clear q F G L U B
    go_wp2_with(go_at_call 224;(with_reducible refine(HC.out _).mono ?_);rintro e w' ⟨rfl,rfl⟩)
    go_ret2
    rw[E.out,D.out]
    exact⟨rfl,rfl⟩
   ·have q:=CV (l:=a_ s) (k:=4-(j+1)) (i:=j) (n:=n) F
    rw[show 4-(j+1)+1=4-j by omega]at q
    have E:Hid ((nv (a_ s) 4 0 0).1=(nv (a_ s) (4-(j+1)) (j+1) (16*n+nf (f_ (a_ s) j))).1):=dM (by rw[N.out,q])
    have D:Hid ((nv (a_ s) 4 0 0).2=j+1+(nv (a_ s) (4-(j+1)) (j+1) (16*n+nf (f_ (a_ s) j))).2):=dM (by rw[M.out,q];simp;omega)
    obtain⟨d,G⟩:=yaa (nf (f_ (a_ s) j))
    rw[←G]at HC L E D F
    rw[B]at HC
    have ab:(d != -1)=true:=by simp;omega
    have aj:0≤d:=by omega
    have Z:d≤15:=by omega
    have HP:=dM (Cy O aa.out Z)
    clear q F G L U B
    go_wp2_with(go_at_call 224;(with_reducible refine(HC.out _).mono ?_);rintro e w' ⟨rfl,rfl⟩)
    go_round
    case rel=>exact⟨j+1,16*n+d,by omega,by omega,(by rw[Int.mul_comm]),by go_num,by omega,HP.out,E.out,D.out⟩
    case measure=>simp[intOf];omega
  ·have Q: ¬(j:Int)<min 4 (s.size:Int):=by omega
   have q:nv (a_ s) (4-j) j n=(n,0):=uJ (by
    rcases eX j 4 with h|h
    ·right
     rw[Jn s j (by omega)];decide
    ·left;omega)
   have E:Hid ((nv (a_ s) 4 0 0).1=n):=dM (by rw[N.out,q])
   have D:Hid ((nv (a_ s) 4 0 0).2=j):=dM (by rw[M.out,q];rfl)
   have ae:decide ((j:Int)<min 4 (s.size:Int))=false:=dT Q
   clear q R
   go_wp2
   go_ret2
   rw[E.out,D.out]
   exact⟨rfl,rfl⟩
theorem x9 (B:Nat) (s:ByteArray) (i:Nat) (n:Int) (c:Int) (w:World) (h:Rdr w B s i n) (hi:i≤s.size) (R:s.size≤1000000) (ae:0<c) (hc:c≠44):
  Calls prog 206 #[.pointer (some ⟨B,0,none⟩),.int .u8 c] w fun e w'=>
   (f_ (a_ s) (d_ (a_ s) i)=44∧e= .returned (.bool true)∧pv w w' B s (d_ (a_ s) i+1:Nat) n)∨
   (f_ (a_ s) (d_ (a_ s) i)=c∧e= .returned (.bool false)∧pv w w' B s (d_ (a_ s) i+1:Nat) n)∨
   (f_ (a_ s) (d_ (a_ s) i)≠44∧f_ (a_ s) (d_ (a_ s) i)≠c∧zF w B (d_ (a_ s) i:Nat) 50 e w'):=by
 have U:=dM (wn B s i n w h hi R)
 have Q:=BQ _ (a_ s) i (dQ _) (by rw[j_];exact hi)
 rw[j_]at Q
 obtain⟨k,hk⟩:=yaa (d_ (a_ s) i)
 rw[←hk]at U Q⊢
 have ad:=Q.2
 have O:=dM (fun(W:World) (L:Rdr W B s k n)=>tk B s k n W L ad R)
 clear hk Q h
 by_cases I:f_ (a_ s) k=44
 ·rw[(BC (by decide)).2 I]at O
  have Z:=dM I
  clear I
  go_enter func206,ntmps206
  go_wp2_with(first|(go_at_call 129;(with_reducible refine U.out.mono ?_);rintro e w1 ⟨rfl,E,D⟩;have N:=dM E;have F:=dM D;obtain⟨⟨c0,c1,c2⟩,f0,f1,f2⟩:=Rdr.cells D;clear E D)|(go_at_call 160;(with_reducible refine(O.out _ F.out).mono ?_);rintro e w' ⟨rfl,q,rfl⟩))
  go_ret
  refine .inl ⟨Z.out,rfl,N.out.trans (oM _ q B 1 _),?_⟩
  exact Rdr.goes (F.out.drewN q) _
 ·have ab:=G5 (l:=a_ s) (i:=k) (c:=44) (by decide) I
  have af:(oQ (a_ s) k==44)=false:=by rw[dY];exact ab
  have Z:=dM I
  obtain⟨x,hx⟩:=yaa (oQ (a_ s) k)
  rw[←hx]at O af
  clear ab hx I
  by_cases G:f_ (a_ s) k=c
  ·have V:=dM (fun(W:World) (L:Rdr W B s k n)=>Hc B s k n c W L R ae G)
   have Y:=dM G
   clear G
   go_enter func206,ntmps206
   go_wp2_with(first|(go_at_call 129;(with_reducible refine U.out.mono ?_);rintro e w1 ⟨rfl,E,D⟩;have N:=dM E;have F:=dM D;clear E D)|(go_at_call 160;(with_reducible refine(O.out _ F.out).mono ?_);rintro e w' ⟨rfl,q,rfl⟩)|(go_at_call 188;(with_reducible refine(V.out _ (F.out.drewN q)).mono ?_);rintro e w2 ⟨rfl,M,aa⟩;have X:=dM M;have ag:=dM aa;clear M aa))
   go_ret
   exact .inr (.inl ⟨Y.out,rfl,(N.out.trans (zL q _)).trans X.out,ag.out⟩)
  ·have V:=dM (fun(W:World) (L:Rdr W B s k n)=>H2 B s k n c W L ad R ae G)
   have Y:=dM G
   clear G
   go_enter func206,ntmps206
   go_wp2_with(first|(go_at_call 129;(with_reducible refine U.out.mono ?_);rintro e w1 ⟨rfl,E,D⟩;have N:=dM E;have F:=dM D;clear E D)|(go_at_call 160;(with_reducible refine(O.out _ F.out).mono ?_);rintro e w' ⟨rfl,q,rfl⟩)|(go_at_call 188;(with_reducible refine(V.out _ (F.out.drewN q)).mono ?_);rintro e w2 ⟨rfl,M⟩;have X:=dM M;clear M))
   exact⟨rfl,.inr (.inr ⟨Z.out,Y.out,rfl,(N.out.trans (zL q _)).trans X.out⟩)⟩
end Go.Proofs.YtceddodfddlncaaGreatDoor
