
import Derived.Test.YtceddodfddlncaaGreatDoorJv04
import Derived.Test.YtceddodfddlncaaGreatDoorJv07
set_option maxRecDepth 100000
set_option maxHeartbeats 16000000
set_option linter.all false
namespace Go.Proofs.YtceddodfddlncaaGreatDoor
open Go Go.RowKit Tryz
def fi:=@wp_region_held_drew
def gD:=@wpAnyH_done
def qx (k:mV):Bool:=decide (1000<k.1.size)||decide (1000<k.2.size)
def Hv (ks:List mV):Bool:=decide (40<ks.length)||ks.any qx
theorem DG (p:mV→Bool) (ks:List mV) {i:Nat} (h:i<ks.length):(ks.drop i).any p=(p ks[i]||(ks.drop (i+1)).any p):=by
 rw[eD h,List.any_cons]
theorem NM (ks:List mV) (A:Option Addr) (n c:Nat) (w:World) (D:ks.length=n) (ae:n≤9223372036854775807) (N:RingAt w A ks):
  Calls prog 8 #[.slice A n c] w fun e w'=>e= .returned (.bool (Hv ks))∧Below w.heap.size w w':=by
 have HN:=dM D
 have HR:=dM N
 by_cases X:40<n
 case pos=>
  have h1:(40:Int)<(n:Int):=by omega
  have M:Hid (Hv ks=true):=dM (by unfold Hv;rw[ec (by rw[D];exact X)];rfl)
  rw[M.out]
  clear D N
  go_enter func8,ntmps8
  go_wp2
  go_ret
  exact⟨rfl,dU _ _⟩
 case neg=>
  have h1: ¬(40:Int)<(n:Int):=by omega
  have M:Hid (Hv ks=ks.any qx):=dM (by unfold Hv;rw[dT (by rw[D];exact X)];rfl)
  rw[M.out]
  obtain⟨R,Q⟩:=yaa (ks.any qx)
  rw[←Q]
  have ad:=dM Q
  clear D N Q M
  go_enter func8,ntmps8
  go_wp2
  go_loopw[3] (fun i wr=> ∃k:Nat,k≤n∧i= .int .i64 (k:Int)∧R=(ks.drop k).any qx∧Below w.heap.size w wr) (fun i _=>n-(intOf i).toNat)
  case atStart=>exact⟨0,eN _,rfl,ad.out,dU _ _⟩
  case round=>
   obtain⟨k,hk,rfl,U,W⟩:=hrel
   have E:=dM W
   have L:=dM U
   clear W U
   by_cases aa:k<n
   ·have O:k<ks.length:=by rw[HN.out];exact aa
    obtain⟨b,o,rfl,_,x0,x1⟩:=(HR.out.below E.out).at O
    have I:=dM (DG qx ks O)
    obtain⟨q,V⟩:=yaa (ks[k])
    rw[←V]at x0 x1 I
    obtain⟨G,F⟩:=q
    have af:(0:Int)≤(k:Int):=by omega
    have ab:(k:Int)<(n:Int):=by omega
    clear V O
    by_cases Z:1000<G.size
    ·have c1:(1000:Int)<(G.size:Int):=by omega
     have B:Hid (R=true):=dM (by rw[L.out,I.out];unfold qx;rw[ec Z];rfl)
     go_wp2
     go_ret
     exact⟨by rw[B.out];rfl,E.out⟩
    ·have c1: ¬(1000:Int)<(G.size:Int):=by omega
     by_cases Y:1000<F.size
     ·have c2:(1000:Int)<(F.size:Int):=by omega
      have B:Hid (R=true):=dM (by rw[L.out,I.out];unfold qx;rw[ec Y,Bool.or_true];rfl)
      go_wp2
      go_ret
      exact⟨by rw[B.out];rfl,E.out⟩
     ·have c2: ¬(1000:Int)<(F.size:Int):=by omega
      have B:Hid (R=(ks.drop (k+1)).any qx):=dM (by rw[L.out,I.out,show qx (G,F)=false by unfold qx;rw[dT Z,dT Y];rfl,Bool.false_or])
      go_wp2
      go_roundw
      case rel=>exact⟨k+1,by omega,by go_num,B.out,E.out⟩
      case measure=>simp[intOf];omega
   ·obtain rfl:k=n:=by omega
    have ab: ¬(k:Int)<(k:Int):=by omega
    have B:Hid (R=false):=dM (by rw[L.out,fB (Nat.le_of_eq HN.out)];rfl)
    go_wp2
    go_ret
    exact⟨by rw[B.out];rfl,E.out⟩
theorem Ng (ks:List mV) (A:Option Addr) (n c:Nat) (w:World) (hn:ks.length=n) (aw:n≤9223372036854775807) (hr:RingAt w A ks):
  Calls prog 13 #[.slice A n c] w fun e w'=>e= .returned (.bool (o9 ks))∧Below w.heap.size w w':=by
 have Z:=dM hn
 by_cases ah:1≤n∧n≤4
 case neg=>
  have N:Hid (o9 ks=false):=dM (tX (by rw[hn];exact ah))
  rw[N.out]
  by_cases h0:n=0
  ·subst h0
   go_enter func13,ntmps13
   go_wp2
   go_ret
   exact⟨rfl,dU _ _⟩
  ·have e0:((n:Int)==0)=false:=by rw[dY];omega
   have e1:(4:Int)<(n:Int):=by omega
   have e2: ¬(n:Int)=0:=by omega
   go_enter func13,ntmps13
   go_wp2
   go_ret
   exact⟨rfl,dU _ _⟩
 case pos=>
  have N:=dM hr
  obtain⟨l1,l2⟩:=ah
  have e0:((n:Int)==0)=false:=by rw[dY];omega
  have e1: ¬(4:Int)<(n:Int):=by omega
  have e2: ¬(n:Int)=0:=by omega
  have d1:decide ((4:Int)<(n:Int))=false:=dT e1
  obtain⟨R,ab⟩:=yaa (o9 ks)
  rw[←ab]
  have ao:=dM ab
  clear hr hn ab
  go_enter func13,ntmps13
  go_wp2
  go_loopw[3,4] (fun i _j wr=> ∃k:Nat,k≤n∧i= .int .i64 (k:Int)∧BJ ks k=true∧Below w.heap.size w wr) (fun i _ _=>n-(intOf i).toNat)
  case atStart=>exact⟨0,eN _,rfl,rfl,dU _ _⟩
  case round=>
   obtain⟨k,hk,rfl,ai,L⟩:=hrel
   have I:=dM L
   have HF:=dM ai
   clear L ai
   by_cases ap:k<n
   ·have F:k<ks.length:=by rw[Z.out];exact ap
    obtain⟨b,o,rfl,_,x0,x1⟩:=(N.out.below I.out).at F
    have HS:=dM (JZ F)
    have U:Hid ((DY ks[k]&& !s_ (ks.take k) ks[k].1)=false→R=false):=dM (fun h=>by rw[ao.out];exact tY F h)
    obtain⟨q,hq⟩:=yaa (ks[k])
    rw[←hq]at x0 x1 HS U
    obtain⟨B,E⟩:=q
    have HQ:Hid (∀h:k<ks.length,(B:ByteArray)=ks[k].1):=dM (fun _=>by rw[←hq])
    have az:(0:Int)≤(k:Int):=by omega
    have ar:(k:Int)<(n:Int):=by omega
    have O:=dM (fun W:World=>Lt B W)
    obtain⟨V,aa⟩:=yaa (oG (a_ B))
    have M:Hid (DY (B,E)=(V&&decide (1≤E.size∧E.size≤128))):=dM (by rw[aa];rfl)
    rw[←aa]at O
    clear hq F aa
    cases V with
    |false=>
     have D:Hid (R=false):=dM (U.out (by rw[M.out];rfl))
     go_wp2_with(go_at_call 16;(with_reducible refine(O.out _).mono ?_);rintro e w' ⟨rfl,rfl⟩)
     go_ret
     exact⟨by rw[D.out];rfl,I.out⟩
    |true=>
     by_cases b1:E.size<1
     ·have c1:(E.size:Int)<1:=by omega
      have D:Hid (R=false):=dM (U.out (by rw[M.out,dT (by omega)];rfl))
      go_wp2_with(go_at_call 16;(with_reducible refine(O.out _).mono ?_);rintro e w' ⟨rfl,rfl⟩)
      go_ret
      exact⟨by rw[D.out];rfl,I.out⟩
     ·have c1: ¬(E.size:Int)<1:=by omega
      by_cases b2:128<E.size
      ·have c2:(128:Int)<(E.size:Int):=by omega
       have D:Hid (R=false):=dM (U.out (by rw[M.out,dT (by omega)];rfl))
       go_wp2_with(go_at_call 16;(with_reducible refine(O.out _).mono ?_);rintro e w' ⟨rfl,rfl⟩)
       go_ret
       exact⟨by rw[D.out];rfl,I.out⟩
      ·have c2: ¬(128:Int)<(E.size:Int):=by omega
       have am:Hid (DY (B,E)=true):=dM (by rw[M.out,ec (by omega)];rfl)
       clear M
       go_wp2_with(go_at_call 16;(with_reducible refine(O.out _).mono ?_);rintro e w' ⟨rfl,rfl⟩)
       rename World=>wo
       go_loopw[4] (fun jv wx=> ∃x:Nat,x≤k∧jv= .int .i64 (x:Int)∧s_ (ks.take k) B=s_ ((ks.take k).drop x) B∧Below w.heap.size w wx) (fun jv _=>k-(intOf jv).toNat)
       case atStart=>exact⟨0,eN _,rfl,rfl,I.out⟩
       case round=>
        clear x0 x1
        obtain⟨x,hx,rfl,ag,L⟩:=hrel
        have Q:=dM L
        have ak:=dM ag
        clear L ag
        by_cases av:x<k
        ·have af:x<ks.length:=by have:=Z.out;omega
         have F:k<ks.length:=by have:=Z.out;omega
         obtain⟨b',o',G, -,y0, -⟩:=(N.out.below Q.out).at af
         injection G with G
         injection G with ae ad
         subst ae;subst ad
         obtain⟨b',o',G, -,z0, -⟩:=(N.out.below Q.out).at F
         injection G with G
         injection G with ae ad
         subst ae;subst ad
         rw[←HQ.out F]at z0
         have Y:Hid (s_ (ks.take k) B=(decide (ks[x].1=B)||s_ ((ks.take k).drop (x+1)) B)):=dM (by
          rw[ak.out,eD (by rw[ep];omega)]
          show(decide (((ks.take k)[x]'_).1=B)||_)=_
          rw[ml];rfl)
         obtain⟨t,ht⟩:=yaa (ks[x].1)
         rw[←ht]at y0 Y
         have ay:(0:Int)≤(x:Int):=by omega
         have ax:(x:Int)<(n:Int):=by omega
         have aq:(x:Int)<(k:Int):=by omega
         have he:=BG t B
         obtain⟨bb,aj⟩:=yaa (decide (t=B))
         rw[←aj]at he Y
         clear af F ht aj
         go_wp2_with fail
         refine fi (S:=fun X=>X.cell? ⟨b,o+x*2,none⟩=some (.string t)∧X.cell? ⟨b,o+k*2,none⟩=some (.string B)) (by kernel_rfl) ⟨y0,z0⟩ (fun au=> ?_)
         refine mZ 0 ?_
         try simp only[k_]
         refine mZ 1 ?_
         try simp only[k_]
         refine mZ 2 ?_
         try simp only[k_]
         refine mZ 3 ?_
         try simp only[k_]
         refine mZ 4 ?_
         try simp only[k_]
         refine mZ 5 ?_
         try simp only[k_]
         refine mZ 6 ?_
         try simp only[k_]
         refine mZ 7 ?_
         try simp only[k_]
         refine mZ 8 ?_
         try simp only[k_]
         refine mZ 9 ?_
         try simp only[k_]
         refine mZ 10 ?_
         try simp only[k_]
         refine gD (by kernel_rfl) ?_ _
         clear au
         cases bb with
         |true=>
          have D:Hid (R=false):=dM (U.out (by rw[am.out,Y.out];rfl))
          go_wp2
          go_ret
          exact⟨by rw[D.out];rfl,Q.out.drew⟩
         |false=>
          go_wp2
          go_roundw
          case rel=>exact⟨x+1,by omega,by go_num,by rw[Y.out,Bool.false_or],Q.out.drew⟩
          case measure=>simp[intOf];omega
        ·obtain rfl:x=k:=by omega
         have aq: ¬(x:Int)<(x:Int):=by omega
         have D:Hid (BJ ks (x+1)=true):=dM (by
          rw[HS.out,HF.out,am.out,ak.out,fB (by rw[ep];omega)];rfl)
         go_wp2
         go_roundw
         case rel=>exact⟨x+1,by omega,by go_num,D.out,Q.out⟩
         case measure=>simp[intOf];omega
   ·obtain rfl:k=n:=by omega
    have ar: ¬(k:Int)<(k:Int):=by omega
    have D:Hid (R=true):=dM (by rw[ao.out];unfold o9;rw[Z.out,HF.out,ec ⟨l1,l2⟩];rfl)
    go_wp2
    go_ret
    exact⟨by rw[D.out];rfl,I.out⟩
end Go.Proofs.YtceddodfddlncaaGreatDoor
