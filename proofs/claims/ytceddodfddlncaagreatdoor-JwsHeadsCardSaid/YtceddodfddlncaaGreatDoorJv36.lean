
import Derived.Test.YtceddodfddlncaaGreatDoorJv35
set_option maxRecDepth 100000
set_option maxHeartbeats 16000000
set_option linter.all false
namespace Go.Proofs.YtceddodfddlncaaGreatDoor
open Go Go.RowKit Go.Proofs.Tryz
theorem so (ks:List mV) (A:Option Addr) (n c:Nat) (E:Int) (kind V payload:ByteArray) (w:World) (aG:0≤E) (aF:E≤255) (U:ks.length=n) (ad:n≤9223372036854775807) (av:n≤c) (hk:KeyOk ks) (R:RingAt w A ks) (Z:Ask8 w):
  Calls prog 5 #[.slice A n c,.int .u8 E,.string kind,.string V,.string payload] w fun e w'=>e= .returned (.bool true)∧Below w.heap.size w w':=by
 have ar:=dM (LX w Z)
 have I:=dM (fun(W:World) (F:Below w.heap.size w W)=>Ng ks A n c W U ad (R.below F))
 have X:=dM (fun W:World=>Lt kind W)
 have am:=dM (fun(N:ByteArray) (W:World) (F:Below w.heap.size w W)=>Lb ks A n c kind N W U ad av hk (R.below F) (Z.below F))
 have ao:=dM (fun(N:ByteArray) (W:World) (F:Below w.heap.size w W)=>Nj ks A n c kind N W U ad (R.below F))
 have ax:=dM (fun(W:World) (F:Below w.heap.size w W)=>(Z.below F).ask.tab)
 have HR:=dM R
 have HN:=dM U
 obtain⟨rb,aa⟩: ∃b,b=o9 ks:=⟨_,rfl⟩
 obtain⟨nb,aj⟩: ∃b,b=oG (a_ kind):=⟨_,rfl⟩
 rw[←aa]at I
 rw[←aj]at X
 have ay:=dM aa
 clear Z R hk U aa aj
 go_enter func5,ntmps5
 go_wp2_with(go_at_call 7;fail)
 refine ar.out.mono ?_
 rintro e w1 ⟨rfl,B⟩
 have D:=dM B
 clear B ar
 cases rb with
 |false=>
  go_wp2_with(go_at_call 13;(with_reducible refine(I.out _ D.out).mono ?_);rintro e Y ⟨rfl,B⟩;have G:=yab D B;clear B)
  go_ret
  exact⟨by first|rfl|simp,G.out⟩
 |true=>
 cases nb with
 |false=>
  go_wp2_with(first
   |(go_at_call 13;(with_reducible refine(I.out _ D.out).mono ?_);rintro e Y ⟨rfl,B⟩;have G:=yab D B;clear B)
   |(go_at_call 16;(with_reducible refine(X.out _).mono ?_);rintro e w' ⟨rfl,rfl⟩))
  go_ret
  exact⟨by first|rfl|simp,G.out⟩
 |true=>
 by_cases k1:1000<V.size
 ·have c1:(1000:Int)<(V.size:Int):=by omega
  go_wp2_with(first
   |(go_at_call 13;(with_reducible refine(I.out _ D.out).mono ?_);rintro e Y ⟨rfl,B⟩;have G:=yab D B;clear B)
   |(go_at_call 16;(with_reducible refine(X.out _).mono ?_);rintro e w' ⟨rfl,rfl⟩))
  go_ret
  exact⟨by first|rfl|simp[c1],G.out⟩
 have c1: ¬(1000:Int)<(V.size:Int):=by omega
 by_cases k2:1000<payload.size
 ·have c2:(1000:Int)<(payload.size:Int):=by omega
  go_wp2_with(first
   |(go_at_call 13;(with_reducible refine(I.out _ D.out).mono ?_);rintro e Y ⟨rfl,B⟩;have G:=yab D B;clear B)
   |(go_at_call 16;(with_reducible refine(X.out _).mono ?_);rintro e w' ⟨rfl,rfl⟩))
  go_ret
  exact⟨by first|rfl|simp[c2],G.out⟩
 have c2: ¬(1000:Int)<(payload.size:Int):=by omega
 obtain⟨l1,l2,l3⟩:=Hl ay.out.symm
 rw[HN.out]at l1 l2
 have ae:(E%(n:Int)).toNat<ks.length:=by rw[HN.out];have h1:=Int.emod_nonneg E (show(n:Int)≠0 by omega);have h2:=Int.emod_lt_of_pos E (show(0:Int)<(n:Int)by omega);omega
 have ab:=l3 _ (fe ae)
 obtain⟨q,hq⟩:=yaa (ks[(E%(n:Int)).toNat])
 rw[←hq]at ab
 obtain⟨q1,q2⟩:=q
 obtain⟨m,hm⟩: ∃m:Nat,E%(n:Int)=(m:Int):=⟨(E%(n:Int)).toNat,by have h1:=Int.emod_nonneg E (show(n:Int)≠0 by omega);omega⟩
 have aC:(m:Int)<(n:Int):=by rw[←hm];exact Int.emod_lt_of_pos E (by omega)
 have ak:(E%(n:Int)).toNat=m:=by omega
 have aq:Hid (∃b o,A=some ⟨b,o,none⟩∧ ∀W,Below w.heap.size w W→W.cell? ⟨b,o+m*2,none⟩=some (.string q1)∧W.cell? ⟨b,o+m*2+1,none⟩=some (.string q2)):=dM (by
  obtain⟨b,o,hA,aE,M,L⟩:=HR.out.at ae
  rw[←hq,ak]at M L
  exact⟨b,o,hA,fun W F=>⟨(F.cell (nc M)).trans M,(F.cell (nc L)).trans L⟩⟩)
 obtain⟨b,o,rfl,hX⟩:=aq.out
 have HX:=dM hX
 have aB:q2.size≤128:=ab.2.2
 have m0:(0:Int)≤(m:Int):=by omega
 have nz: ¬(n:Int)=0:=by omega
 have ap:=dM (fun W=>MR q1 q2 V payload W (by omega) (by omega) (by omega))
 clear hX aq hq ae ab l3 l1 l2 ak k1 k2
 go_wp2_with(first
  |(go_at_call 13;(with_reducible refine(I.out _ D.out).mono ?_);rintro e Y ⟨rfl,B⟩;have G:=yab D B;obtain⟨M,L⟩:=HX.out _ G.out;clear B)
  |(go_at_call 16;(with_reducible refine(X.out _).mono ?_);rintro e w' ⟨rfl,rfl⟩)
  |(go_at_call 17;fail))
 refine(ap.out _).mono ?_
 rintro e w3 ⟨N,au,rfl,B⟩
 have ah:=yab G B
 clear B ap M L au
 go_wp2_with(go_at_call 14;fail)
 refine(am.out _ _ ah.out).mono ?_
 rintro e w4 ⟨t,u,v,rfl,Q,O,hv,B⟩
 have ag:=yab ah B
 have HV:=dM hv
 have HT:=dM Q
 have HU:=dM O
 clear B hv Q O am
 go_wp2_with(go_at_call 15;fail)
 refine(ao.out _ _ ag.out).mono ?_
 rintro e w5 ⟨t',u',rfl,Q,O,B⟩
 obtain rfl:t'=t:=qy (by rw[Q,HT.out])
 obtain rfl:u'=u:=qy (by rw[O,HU.out])
 obtain⟨nm,ai⟩: ∃m,m=(nu ks kind N).2.2:=⟨_,rfl⟩
 rw[←ai]at HV⊢
 have aw:=dM (HV.out.below B)
 have af:=yab ag B
 have az:=dM (Gx aw.out (ax.out w5 af.out))
 have aD:(nm==nm)=true:=by simp
 clear B Q O ai ao HV HT HU
 go_wp2_with(go_at_call 12;(with_reducible refine az.out.mono ?_);rintro e w6 ⟨rfl,B⟩;have aA:=yab af B;clear B)
 go_ret
 exact⟨by first|rfl|simp,aA.out⟩
end Go.Proofs.YtceddodfddlncaaGreatDoor
