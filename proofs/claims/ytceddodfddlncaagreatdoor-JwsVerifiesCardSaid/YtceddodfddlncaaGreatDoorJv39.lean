
import Derived.Test.YtceddodfddlncaaGreatDoorJv35
set_option maxRecDepth 100000
set_option maxHeartbeats 16000000
set_option linter.all false
namespace Go.Proofs.YtceddodfddlncaaGreatDoor
open Go Go.RowKit Go.Proofs.Tryz
theorem N_ (ks:List mV) (A:Option Addr) (n c:Nat) (kind D:ByteArray) (w:World) (L:ks.length=n) (N:n≤9223372036854775807) (af:n≤c) (Z:KeyOk ks) (I:RingAt w A ks) (M:Ask8 w):
  Calls prog 4 #[.slice A n c,.string kind,.string D] w fun e w'=>e= .returned (.bool true)∧Below w.heap.size w w':=by
 have ae:=dM (LX w M)
 have Q:=dM (fun(W:World) (B:Below w.heap.size w W)=>NM ks A n c W L N (I.below B))
 have ab:=dM (fun(W:World) (B:Below w.heap.size w W)=>Lb ks A n c kind D W L N af Z (I.below B) (M.below B))
 have ad:=dM (fun(W:World) (B:Below w.heap.size w W)=>Nj ks A n c kind D W L N (I.below B))
 have ah:=dM (fun(W:World) (B:Below w.heap.size w W)=>(M.below B).ask.tab)
 obtain⟨gr,aa⟩: ∃b,b=Hv ks:=⟨_,rfl⟩
 rw[←aa]at Q
 clear M I Z L aa
 go_enter func4,ntmps4
 go_wp2_with(go_at_call 7;fail)
 refine ae.out.mono ?_
 rintro e w1 ⟨rfl,q⟩
 have V:=dM q
 clear q ae
 go_wp2_with(go_at_call 8;fail)
 refine(Q.out _ V.out).mono ?_
 rintro e w2 ⟨rfl,q⟩
 have E:=yab V q
 clear q Q
 cases gr with
 |true=>
  go_wp2
  go_ret
  exact⟨rfl,E.out⟩
 |false=>
 by_cases k1:1000<kind.size
 ·have c1:(1000:Int)<(kind.size:Int):=by omega
  go_wp2
  go_ret
  exact⟨by first|rfl|simp[c1],E.out⟩
 have c1: ¬(1000:Int)<(kind.size:Int):=by omega
 by_cases k2:5000<D.size
 ·have c2:(5000:Int)<(D.size:Int):=by omega
  go_wp2
  go_ret
  exact⟨by first|rfl|simp[c2],E.out⟩
 have c2: ¬(5000:Int)<(D.size:Int):=by omega
 go_wp2_with(go_at_call 14;fail)
 refine(ab.out _ E.out).mono ?_
 rintro e w3 ⟨t,u,v,rfl,G,F,X,q⟩
 have U:=yab E q
 have O:=dM X
 have HT:=dM G
 have HU:=dM F
 clear q X G F ab
 go_wp2_with(go_at_call 15;fail)
 refine(ad.out _ U.out).mono ?_
 rintro e w4 ⟨t',u',rfl,G,F,q⟩
 obtain rfl:t'=t:=qy (by rw[G,HT.out])
 obtain rfl:u'=u:=qy (by rw[F,HU.out])
 obtain⟨m,Y⟩:=yaa ((nu ks kind D).2.2)
 rw[←Y]at O⊢
 have ag:=dM (O.out.below q)
 have R:=yab U q
 have ai:=dM (Gx ag.out (ah.out w4 R.out))
 have ak:(m==m)=true:=by simp
 clear q G F Y ad O HT HU
 go_wp2_with(go_at_call 12;(with_reducible refine ai.out.mono ?_);rintro e w5 ⟨rfl,q⟩;have aj:=yab R q;clear q)
 go_ret
 exact⟨by first|rfl|simp,aj.out⟩
end Go.Proofs.YtceddodfddlncaaGreatDoor
