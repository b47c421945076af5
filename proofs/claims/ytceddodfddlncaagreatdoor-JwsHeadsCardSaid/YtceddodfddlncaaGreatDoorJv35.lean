
import Derived.Test.YtceddodfddlncaaGreatDoorJv29
import Derived.Test.YtceddodfddlncaaGreatDoorJv33
import Derived.Test.YtceddodfddlncaaGreatDoorJv34
set_option maxRecDepth 100000
set_option maxHeartbeats 16000000
set_option linter.all false
namespace Go.Proofs.YtceddodfddlncaaGreatDoor
open Go Go.RowKit Go.Proofs.Tryz
def mx:=@ntmps15
def mR:=@func15
theorem B_ (k:mV) (kind payload:ByteArray) (w:World) (D:oG (a_ k.1)=true) (E:oG (a_ kind)=true) (q:k.2.size≤1000) (B:payload.size≤100000) (F:Ask8 w)
  (G: ∀W,Below w.heap.size w W→Calls prog 52 #[.agg #[.string k.1,.string k.2],.string kind] W fun e w'=>e= .returned (.string (toS (ow k.1 kind)))∧Below W.heap.size W w'):
  Calls prog 23 #[.agg #[.string k.1,.string k.2],.string kind,.string payload] w fun e w'=> ∃t,a_ t=zH k kind payload∧e= .returned (.string t)∧Below w.heap.size w w':=
 Et k.1 k.2 kind payload (ow k.1 kind) w (K8 _ _) (dV (Dc D E) (by decide)) q B F.tabs G
theorem Fq (ks:List mV) (A:Option Addr) (n c:Nat) (kind payload:ByteArray) (w:World) (V:ks.length=n) (aH:n≤9223372036854775807) (aG:n≤c) (F:KeyOk ks) (U:RingAt w A ks) (ha:Ask8 w)
  (HH: ∀k∈ks,oG (a_ kind)=true→ ∀W,Ask8 W→Calls prog 52 #[.agg #[.string k.1,.string k.2],.string kind] W fun e w'=>e= .returned (.string (toS (ow k.1 kind)))∧Below W.heap.size W w'):
  Calls prog 9 #[.slice A n c,.string kind,.string payload] w (Fr ks kind payload w):=by
 have av:=dM (fun(W:World) (h:W.heap.size=w.heap.size+1)=>by have:=M2 kind W;simp only[h,ln,Nat.reduceAdd]at this;exact this)
 have au:=dM (fun(W:World) (h:W.heap.size=w.heap.size+5)=>by have:=LC payload W;simp only[h,ln,Nat.reduceAdd]at this;exact this)
 have HF:=dM (fun(M:World) (h:Three w M A n c kind payload) (hz:M.heap.size=w.heap.size+9)=>wX ks A n c kind payload w M h hz V aH aG F U)
 have HA:=dM ha
 have aL:=dM HH
 have HR:=dM U
 have O:=dM V
 obtain⟨m,X⟩:=yaa (rE ks kind payload)
 rw[←X]at HF
 have Q:=dM X
 clear ha U F V X HH
 go_enter func9,ntmps9
 go_wp2_with(first
  |(go_at_call 20;(with_reducible refine(M3 A n c _).mono ?_);rintro e w1 ⟨rfl,ao,ae,q⟩;have ay:=dM ao;have aK:=dM ae;have aE:=dM q;clear q ao ae)
  |(go_at_call 21;(with_reducible refine(av.out _ aK.out).mono ?_);rintro e w2 ⟨rfl,am,ah,ad,q⟩;have aq:=dM ah;have ax:=dM am;have aJ:=dM ad;have aD:=dM q;clear q am ah ad)
  |(go_at_call 22;(with_reducible refine(au.out _ aJ.out).mono ?_);rintro e M ⟨rfl,ak,ag,ab,q⟩;have ap:=dM ag;have aw:=dM ak;have aI:=dM ab;have aC:=dM q;clear q ak ag ab)
  |(go_at_call 19;fail))
 have R:=dM (tE aE.out aD.out aC.out ay.out ax.out aq.out aw.out ap.out)
 refine(HF.out _ R.out aI.out).mono ?_
 rintro e w4 ⟨v,rfl,B,q⟩
 have G:=dM (R.out.bel.trans (q.mono R.out.bel.size))
 have E:=dM B
 clear q B HF av au ay ax aq aw ap R aE aD aC
 by_cases h0:m=0
 case neg=>
  obtain⟨d,x,rfl⟩:=E.out.iface h0
  have I:=dM (Ab (ks:=ks) (kind:=kind) (payload:=payload) (by rw[←Q.out];exact h0))
  go_wp2
  go_ret2
  exact⟨_,_,rfl,by rw[I.out];rfl,by rw[I.out,←Q.out];exact E.out,G.out⟩
 case pos=>
  subst h0
  obtain rfl:=E.out.nil
  obtain⟨g1,g2,g3⟩:=vo Q.out.symm
  obtain⟨l1,l2,l3⟩:=Hl g1
  obtain⟨D,rfl⟩: ∃k,n=k+1:=⟨n-1,by have:=O.out;omega⟩
  have Y:D<ks.length:=by rw[O.out];omega
  have I:=dM (wY (ks:=ks) (kind:=kind) (payload:=payload) Q.out.symm)
  have aa:=dM (CY (ks:=ks) O.out)
  obtain⟨b,o,rfl,_,c0,c1⟩:=(HR.out.below G.out).at Y
  obtain⟨q1,q2,q3⟩:=l3 _ (fe Y)
  obtain⟨k,F⟩:=yaa (ks[D])
  have ai:k∈ks:=by rw[F];exact fe _
  rw[←F]at c0 c1 q1 q2 q3 aa
  have ar:=dM (B_ k kind payload w4 q1 g2 (by omega) (by omega) (HA.out.below G.out) fun W hW=>aL.out k ai g2 W ((HA.out.below G.out).below hW))
  obtain⟨k1,k2⟩:=k
  have aM:IntKind.i64.wrap (((D+1:Nat):Int)-1)=(D:Int):=by rw[es];omega
  have aO:(0:Int)≤(D:Int):=by omega
  have aN:(D:Int)<((D+1:Nat):Int):=by omega
  clear F ai Y E O HR g1 l1 l2 l3
  go_wp2_with(first
   |(go_at_call 23;(with_reducible refine ar.out.mono ?_);rintro e w5 ⟨t,ht,rfl,q⟩;have HT:=dM ht;have aB:=yab G q;clear q ht ar)
   |(go_at_call 22;(with_reducible refine(LC t _).mono ?_);rintro e w6 ⟨rfl,aj,af,aF,q⟩;have HL:=dM (Aa t _ _ q af aj);have aA:=yab aB q;clear q aj af aF)
   |(go_at_call 19;fail))
  refine HL.out.mono ?_
  rintro e w7 ⟨v,rfl,B,q⟩
  have az:=yab aA q
  have E:=dM B
  clear q B
  by_cases N:4096<t.size
  case pos=>
   have B:=E.out
   rw[dP N]at B
   obtain⟨d,x,rfl⟩:=B.iface (by decide)
   have L:Hid (DW ks kind payload=([],2)):=dM (by rw[I.out,aa.out,dP (by rw[←HT.out,j_];exact N)])
   have Z:=dM B
   clear B
   go_wp2
   go_ret2
   exact⟨_,_,rfl,by rw[L.out];rfl,by rw[L.out];exact Z.out,az.out⟩
  case neg=>
   have B:=E.out
   rw[dN N]at B
   obtain rfl:=B.nil
   have L:Hid (DW ks kind payload=(a_ t,0)):=dM (by rw[I.out,aa.out,dN (by rw[←HT.out,j_];exact N),HT.out])
   have Z:=dM B
   clear B
   go_wp2
   go_ret2
   exact⟨_,_,rfl,by rw[L.out],by rw[L.out];exact Z.out,az.out⟩
def nC:ByteArray:=⟨#[107,49]⟩
def oJ:ByteArray:=⟨#[115,101,99,114,101,116]⟩
def pi:ByteArray:=⟨#[97,116]⟩
def pb:ByteArray:=⟨#[123,125]⟩
def uK:ByteArray:=⟨#[123,34,97,108,103,34,58,34,110,111,110,101,34,125]⟩
def C3:ByteArray:=⟨#[101,121,74,104,98,71,99,105,79,105,74,73,85,122,73,49,78,105,73,115,73,109,116,112,90,67,73,54,73,109,115,120,73,105,119,105,100,72,108,119,73,106,111,105,89,88,81,105,102,81,46,101,51,48,46]⟩
abbrev aKs:List mV:=[(nC,oJ)]
theorem yv:o9 aKs=true:=by decide+kernel
theorem yw:oG (a_ pi)=true∧oG (a_ nC)=true:=by decide+kernel
theorem GZ:yG (ow nC pi) (a_ pb)++[46]=a_ C3:=by decide+kernel
theorem DJ:qa (a_ uK)=true∧nk (nN (a_ uK)).1 sAlg sHS=false:=by decide+kernel
theorem sR:zH (nC,oJ) pi pb=a_ C3++l_ (nA (a_ oJ) (yG (ow nC pi) (a_ pb))):=by
 unfold zH BO
 rw[←GZ];simp
theorem Fp:DW aKs pi pb=(zH (nC,oJ) pi pb,0):=by
 unfold DW
 rw[dN (by rw[yv];decide),dN (by rw[yw.1];decide),dN (by decide)]
 have q:aKs.getLastD default=(nC,oJ):=rfl
 have hz: ¬4096<(zH (nC,oJ) pi pb).length:=by
  rw[sR,dS,j_,zM,Jp]
  decide
 rw[q,dN hz]
theorem p9:qa (ow nC pi)=true∧nk (nN (ow nC pi)).1 sAlg sHS=true∧nk (nN (ow nC pi)).1 sTyp pi=true∧nk (nN (ow nC pi)).1 sKid nC=true:=by decide+kernel
theorem zA:qh none GK=true∧qp (FP nC pi) 2 255=(true,252):=by decide+kernel
theorem Jf:(qq (BK nC pi)).length≤4096:=by rw[Lj];decide+kernel
theorem Je {s:ByteArray} (q:a_ s=zH (nC,oJ) pi pb):nu aKs pi s=(a_ pb,a_ nC,0):=by
 have hz:s.size≤4096:=by
  rw[←j_,q,sR,dS,j_,zM,Jp];decide
 have F:=Ih _ (Ft (K8 nC pi))
 have E:=Ih _ (Ft (pM pb))
 have D:=Ih _ (Ft (show Bytes (nA (a_ oJ) (yG (ow nC pi) (a_ pb)))from BU _))
 rw[Ed ⟨fun _=>yv,fun _=>yw.1,fun _=>hz⟩,q]
 unfold zH
 rw[L0 (K8 _ _) (pM _)]
 show oe aKs pi (l_ (ow nC pi)) (l_ (a_ pb)) (l_ (nA (a_ oJ) (yG (ow nC pi) (a_ pb))))=_
 unfold oe
 rw[F,E,D,dN (by rw[p9.1];decide),dN (by rw[p9.2.1];decide),dN (by rw[p9.2.2.1];decide)]
 have B:aKs.find? (fun k=>nk (nN (ow nC pi)).1 sKid k.1)=some (nC,oJ):=by
  show List.find? _ [(nC,oJ)]=_
  rw[List.find?_cons,show nk (nN (ow nC pi)).1 sKid (nC,oJ).1=true from p9.2.2.2]
 rw[B]
 exact dP rfl
theorem GV {s:ByteArray} (q:a_ s=BO (a_ oJ) (a_ uK) (a_ pb)):nu aKs pi s=([],[],82):=by
 have hz:s.size≤4096:=by
  rw[←j_,q]
  unfold BO yG
  simp only[dS,eu,zM,Jp,j_]
  decide
 rw[Ed ⟨fun _=>yv,fun _=>yw.1,fun _=>hz⟩,q,L0 (pM _) (pM _)]
 show oe aKs pi _ _ _=_
 unfold oe
 rw[Ih _ (Ft (pM uK)),dN (by rw[DJ.1];decide),dP DJ.2]
theorem FS:KeyOk aKs:=fun k q=>by simp at q;subst q;exact⟨by decide,by decide⟩
theorem Co (w:World) (k:mV) (t:TypeId):RingAt (w.alloc (.cells #[.string k.1,.string k.2] t)) (some ⟨w.heap.size,0,none⟩) [k]:=fun _=>⟨_,0,rfl,by simp,fun i q hi=>by
 match i,hi with
 |0,hi=>injection hi with hi;subst hi;exact⟨by simp,by simp⟩⟩
theorem LX (w:World) (ha:Ask8 w):Calls prog 7 #[] w fun e w'=>e= .returned (.bool true)∧Below w.heap.size w w':=by
 obtain⟨D,E⟩: ∃W,W=w.alloc (.cells #[.string nC,.string oJ] 41):=⟨_,rfl⟩
 have aa:Hid (Below w.heap.size w D):=dM (by rw[E];exact nO _ _)
 have ag:Hid (RingAt D (some ⟨w.heap.size,0,none⟩) aKs):=dM (by rw[E];exact Co w (nC,oJ) _)
 have Q:D.cell? ⟨w.heap.size,0,none⟩=some (.string nC):=by rw[E];simp
 have O:D.cell? ⟨w.heap.size,1,none⟩=some (.string oJ):=by rw[E];simp
 have ad:=dM E
 have HA:=dM (ha.below aa.out)
 have ae:=dM (Fq aKs (some ⟨w.heap.size,0,none⟩) 1 1 pi pb D rfl (by decide) (by decide) FS ag.out HA.out (fun k hk _ W L=>by
  obtain rfl:k=(nC,oJ):=by simpa using hk
  exact AP nC oJ pi W (by decide) (by decide) (fun W' v B q=>by
   have:=Cw (BK nC pi) v W' B (L.ask.marks.below q) (ty nC pi (by decide) (by decide)) Jf (fun X x u cb h1 h2 h3 h4 h5=>xi nC pi (by decide) (by decide) zA.1 252 zA.2 X x u cb h1 h2 h3 h4 h5)
   rw[Lj]at this
   exact this)))
 have U:=dM (fun(W:World) (s:ByteArray) (L:Below D.heap.size D W)=>Lb aKs (some ⟨w.heap.size,0,none⟩) 1 1 pi s W rfl (by decide) (by decide) FS (ag.out.below L) (HA.out.below L))
 have ai:=dM (fun(W:World)=>MR nC oJ uK pb W (by decide) (by decide) (by decide))
 clear ha E
 go_enter func7,ntmps7
 go_wp2_with(go_at_call 9;fail)
 have R:=ae.out
 rw[ad.out]at R
 refine R.mono ?_
 rintro e w2 ⟨s,v,rfl,I,B,q⟩
 rw[Fp]at I B
 obtain rfl:=B.nil
 rw[←ad.out]at q
 have Z:=dM q
 have HS:=dM I
 have hz:s.size=98:=by
  rw[←j_,I];show(zH (nC,oJ) pi pb).length=_
  rw[sR,dS,j_,zM,Jp];rfl
 have ap:s.extract 0 55=⟨#[101,121,74,104,98,71,99,105,79,105,74,73,85,122,73,49,78,105,73,115,73,109,116,112,90,67,73,54,73,109,115,120,73,105,119,105,100,72,108,119,73,106,111,105,89,88,81,105,102,81,46,101,51,48,46]⟩:=qy (by
  rw[pF,I];show List.drop 0 (List.take 55 (zH (nC,oJ) pi pb))=a_ C3
  rw[sR,iu]
  exact mL (by rw[j_];rfl))
 have ao:(55:Int)≤(s.size:Int):=by omega
 have am:55≤s.size:=by omega
 have ak:((s.size:Int)==98)=true:=by rw[hz];rfl
 have N:=(q.cell (nc Q)).trans Q
 have M:=(q.cell (nc O)).trans O
 clear R I B q
 go_wp2_with(go_at_call 14;fail)
 refine(U.out w2 s Z.out).mono ?_
 rintro e w3 ⟨t,u,v,rfl,G,F,B,q⟩
 rw[Je HS.out]at G F B
 obtain rfl:t=⟨#[123,125]⟩:=qy G
 obtain rfl:u=⟨#[107,49]⟩:=qy F
 obtain rfl:=B.nil
 have aj:=yab Z q
 have z0:=(q.cell (nc N)).trans N
 have z1:=(q.cell (nc M)).trans M
 clear G F B q N M Q O hz ap ao am ak HS ae
 go_wp2_with(go_at_call 17;fail)
 refine(ai.out _).mono ?_
 rintro e w4 ⟨s2,ab,rfl,q⟩
 have af:=dM ab
 have Y:=yab aj q
 clear ab q z0 z1 ai
 go_wp2_with(go_at_call 14;fail)
 refine(U.out w4 s2 Y.out).mono ?_
 rintro e w5 ⟨t2,u2,v2,rfl,G,F,B,q⟩
 rw[GV af.out]at G F B
 have V:=yab Y q
 have ah:=dM (Gx B (HA.out.below V.out).ask.tab)
 clear G F B q U af
 go_wp2_with(go_at_call 12;fail)
 refine ah.out.mono ?_
 rintro e w6 ⟨rfl,q⟩
 have aq:=dM (aa.out.trans ((V.out.trans (q.mono V.out.size)).mono aa.out.size))
 clear q ah
 go_wp2
 go_ret
 exact⟨rfl,aq.out⟩
theorem r9 (s:ByteArray) (W:World) (U:s.size≤5000):Calls prog 41 #[.string s] W fun e w'=>
  ∃E D B N G L M F I,e= .returned (.tuple #[.agg #[.int .i64 E,.int .i64 D,.string B,.slice N G L,.slice M F I],.int .i64 (nN (a_ s)).2.1,.int .i64 (nN (a_ s)).2.2])∧RepJ w' (nN (a_ s)).1 (.agg #[.int .i64 E,.int .i64 D,.string B,.slice N G L,.slice M F I])∧Below W.heap.size W w':=by
 rw[Me]
 refine(r_ s W (by omega)).mono ?_
 rintro e w' ⟨v,rfl,Q,R⟩
 have O:=RepS.toJ _ _ Q
 obtain⟨E,D,B,A,p,c,K,q,d,rfl⟩:=O.form
 exact⟨_,_,_,_,_,_,_,_,_,rfl,O,R⟩
theorem AG {α:Type}: ∀(l:List α),l.length=2→ ∃a b,l=[a,b]
 |[a,b],_=>⟨a,b,rfl⟩
theorem I4 (a b c:List Int):(a++46::(b++46::c)).take (a.length+1+b.length)=a++46::b:=by
 have e:a++46::(b++46::c)=(a++46::b)++46::c:=by simp
 rw[e,mL (by simp;omega)]
theorem LR (a b c:List Int):((a++46::(b++46::c)).take (a.length+1+b.length)).drop (a.length+1)=b:=by
 have e:a++46::b=(a++[46])++b:=by simp
 rw[I4,e,mK (by simp)]
theorem LQ (a b c:List Int):(a++46::(b++46::c)).drop (a.length+1+b.length+1)=c:=by
 have e:a++46::(b++46::c)=(a++46::b++[46])++c:=by simp
 rw[e,mK (by simp;omega)]
theorem RepJ.parts8 {W:World} {j:J} {L R:Int} {I:ByteArray} {Q:Option Addr} {N O:Nat} {G:Option Addr} {q F:Nat} (h:RepJ W j (.agg #[.int .i64 L,.int .i64 R,.string I,.slice Q N O,.slice G q F])):L=j.kind∧I=j.s∧q=j.k.length∧RepK W j.k (.slice G q F):=by
 obtain⟨X,A,c,e, -,M, -, -⟩:=h.open
 have U:=M
 obtain⟨K,d,rfl, -, -⟩:=M
 injection e with e
 have e:=eH Array.toList e
 simp only[gM,jp]at e
 obtain⟨E,e1,D,Z,B⟩:=e
 rw[B]
 injection E with _ E
 injection D with D
 injection B with B V Y
 exact⟨E,D,V,U⟩
theorem FA {wr B E D:World} {g:Nat} (h1:Below wr.heap.size wr B) (F:B.grownBy E none) (I:B.heap.size≤g) (G:E.grownBy D (some g)):Below wr.heap.size wr D:=
 (h1.grown F h1.size (fun b q=>by cases q)).grown G (dV h1.size F.size) (fun b q=>by injection q with q;have:=h1.size;omega)
theorem re {l:List Int} {j:J} {no q:Int} (h:(j,no,q)=nN l) (B: ¬(no=0∧j.kind=5)):qa l=false:=by
 unfold qa
 rw[←h]
 by_cases h0:no=0
 ·rw[show decide (((j,no,q):J×Int×Int).1.kind=5)=false from dT (fun k=>B ⟨h0,k⟩),kU,iv]
 ·rw[show decide (((j,no,q):J×Int×Int).2.1=0)=false from dT h0,iv,iv]
theorem AR {l:List Int} {j:J} {q:Int} (h:(j,(0:Int),q)=nN l) (B:j.kind=5):qa l=j.k.all fun n=>decide (n=sAlg∨n=sKid∨n=sTyp):=by
 unfold qa
 rw[←h]
 rw[show decide (((j,(0:Int),q):J×Int×Int).1.kind=5)=true from ec B]
 rfl
theorem qe {t u:ByteArray} {l:List UInt8} (q:u.toList=l):(t=u∧t.toList=l∧(t.toList==l)=true)∨(t≠u∧ ¬t.toList=l∧(t.toList==l)=false):=by
 by_cases h:t=u
 ·subst h;exact .inl ⟨rfl,q,by rw[q];simp⟩
 ·have e:(t.toList==u.toList)=false:=by rw[BG];exact dT h
  rw[q]at e
  exact .inr ⟨h,by rw[dY]at e;exact e,e⟩
theorem Gh:sAlg.toList=[97,108,103]:=by rw[eT];rfl
theorem Gg:sKid.toList=[107,105,100]:=by rw[eT];rfl
theorem Gf:sTyp.toList=[116,121,112]:=by rw[eT];rfl
theorem IC:sHS.toList=[72,83,50,53,54]:=by rw[eT];rfl
theorem Dd {l:List Int} {j:J} {i:Nat} {t:ByteArray} (h:qa l=j.k.all fun n=>decide (n=sAlg∨n=sKid∨n=sTyp)) (q:j.k[i]? =some t) (D: ¬(t=sAlg∨t=sKid∨t=sTyp)):qa l=false:=by
 rw[h,←im,kr]
 intro B
 exact D (fG (B t (lr q)))
theorem AQ {l:List Int} {j:J} (h:qa l=j.k.all fun n=>decide (n=sAlg∨n=sKid∨n=sTyp)) (D: ∀m,m<j.k.length→ ∀t,j.k[m]? =some t→t=sAlg∨t=sKid∨t=sTyp):qa l=true:=by
 rw[h,kr]
 intro t B
 obtain⟨m,q,rfl⟩:=i7.1 B
 exact ec (D m q _ (dZ q))
def IK (a b cc:List Int):Option mV→List Int×List Int×Int
 |none=>([],[],83)
 |some k=>if nA (a_ k.2) (a++46::b)=g_ cc then(g_ b,a_ k.1,0)else([],[],84)
def RVTells (ks:List mV) (kind text:ByteArray) (w:World) (e:Ending) (w':World):Prop:= ∃t u,e= .returned (.tuple #[.string t,.string u,.int .i64 (nu ks kind text).2.2])∧a_ t=(nu ks kind text).1∧a_ u=(nu ks kind text).2.1∧Below w.heap.size w w'
theorem RVTells.bad {ks:List mV} {kind q:ByteArray} {w w':World} {n:Int} (h:nu ks kind q=([],[],n)) (B:Below w.heap.size w w'):RVTells ks kind q w (.returned (.tuple #[.string ⟨#[]⟩,.string ⟨#[]⟩,.int .i64 n])) w':=
 ⟨_,_,by rw[h],by rw[h];rfl,by rw[h];rfl,B⟩
theorem Nj (ks:List mV) (A:Option Addr) (n c:Nat) (kind I:ByteArray) (w:World) (hn:ks.length=n) (cR:n≤9223372036854775807) (hr:RingAt w A ks):
  Calls prog 15 #[.slice A n c,.string kind,.string I] w (RVTells ks kind I w):=by
 have aB:=dM (Ng ks A n c w hn cR hr)
 have aT:=dM (fun W:World=>Lt kind W)
 have HR:=dM hr
 have HN:=dM hn
 obtain⟨rb,bs⟩: ∃b,b=o9 ks:=⟨_,rfl⟩
 obtain⟨nb,bu⟩: ∃b,b=oG (a_ kind):=⟨_,rfl⟩
 rw[←bs]at aB
 rw[←bu]at aT
 have aP:=dM bs
 have bc:=dM bu
 clear hr hn bs bu
 cases rb with
 |false=>
  have L:Hid (nu ks kind I=([],[],83)):=dM (by unfold nu;rw[dP aP.out.symm])
  go_enter mR,mx
  go_wp2_with(go_at_call 13;(with_reducible refine aB.out.mono ?_);rintro e w1 ⟨rfl,G⟩;have ao:=dM G;clear G)
  go_ret3
  exact .bad L.out ao.out
 |true=>
 cases nb with
 |false=>
  have L:Hid (nu ks kind I=([],[],1)):=dM (by unfold nu;rw[dN (by rw[←aP.out];decide),dP bc.out.symm])
  go_enter mR,mx
  go_wp2_with(first
   |(go_at_call 13;(with_reducible refine aB.out.mono ?_);rintro e w1 ⟨rfl,G⟩;have ao:=dM G;clear G)
   |(go_at_call 16;(with_reducible refine(aT.out _).mono ?_);rintro e w' ⟨rfl,rfl⟩))
  go_ret3
  exact .bad L.out ao.out
 |true=>
 by_cases h1:4096<I.size
 ·have c1:(4096:Int)<(I.size:Int):=by omega
  have L:Hid (nu ks kind I=([],[],2)):=dM (by unfold nu;rw[dN (by rw[←aP.out];decide),dN (by rw[←bc.out];decide),dP h1])
  go_enter mR,mx
  go_wp2_with(first
   |(go_at_call 13;(with_reducible refine aB.out.mono ?_);rintro e w1 ⟨rfl,G⟩;have ao:=dM G;clear G)
   |(go_at_call 16;(with_reducible refine(aT.out _).mono ?_);rintro e w' ⟨rfl,rfl⟩))
  go_ret3
  exact .bad L.out ao.out
 have c1: ¬(4096:Int)<(I.size:Int):=by omega
 have a7:Hid (nu ks kind I=match nD (a_ I)with|none=>([],[],80)|some (a,b,c)=>oe ks kind a b c):=dM (by unfold nu;rw[dN (by rw[←aP.out];decide),dN (by rw[←bc.out];decide),dN h1];cases nD (a_ I)with|none=>rfl|some x=>obtain⟨a,b,c⟩:=x;rfl)
 obtain⟨m,ay⟩:=yaa ((nY (a_ I) 0).length)
 have cv:=dM (fun W:World=>show Calls prog 39 #[.string I] W fun e w'=> ∃v,e= .returned v∧w'.ownsRow W.heap.size 3 1 v m (zj (nY (a_ I) 0))∧Below W.heap.size W w' by rw[ay];exact ue I W (by omega))
 have bH:=Ky (a_ I) 0
 rw[j_]at bH
 go_enter mR,mx
 go_wp2_with(first
  |(go_at_call 13;(with_reducible refine aB.out.mono ?_);rintro e w1 ⟨rfl,G⟩;have ao:=dM G;clear G)
  |(go_at_call 16;(with_reducible refine(aT.out _).mono ?_);rintro e w' ⟨rfl,rfl⟩)
  |(go_at_call 39;fail))
 (with_reducible refine(cv.out _).mono ?_)
 rintro e w2 ⟨v,rfl,cQ,G⟩
 have bg:=yab ao G
 clear G cv aB aT
 obtain⟨_,⟨rfl,h0⟩|⟨g,cW,au,rfl,N,hh,h2,h3,h4,h5⟩⟩:=cQ
 ·have L:Hid (nu ks kind I=([],[],80)):=dM (by rw[a7.out,vA (by omega)])
  go_wp2
  go_ret3
  exact .bad L.out bg.out
 by_cases hm:m=2
 case neg=>
  have L:Hid (nu ks kind I=([],[],80)):=dM (by rw[a7.out,vA (by rw[←ay];exact hm)])
  rw[←ay]at bH
  have dy:((m:Int)!=2)=true:=by rw[kb];omega
  have dx: ¬(m:Int)=2:=by omega
  clear hm ay h2 h5
  go_wp2
  go_ret3
  exact .bad L.out bg.out
 case pos=>
 obtain⟨p,q,bt⟩:=AG _ (ay.symm.trans hm)
 obtain⟨a,b,cc,hl,hd,hp,hq⟩:=Do bt
 have bV:(a_ I).length=I.size:=j_ I
 have cS:I.size=a.length+1+b.length+1+cc.length:=by rw[←bV,hl];simp;omega
 have bM:Hid (nu ks kind I=if nM a= -1∧nM b= -1∧nM cc= -1 then oe ks kind a b cc else([],[],80)):=dM (by
  rw[a7.out]
  unfold nD
  rw[hd]
  dsimp only
  by_cases B:nM a= -1∧nM b= -1∧nM cc= -1
  ·rw[dP B,dP B]
  ·rw[dN B,dN B])
 have cB:Hid (nD (a_ I)=if nM a= -1∧nM b= -1∧nM cc= -1 then some (a,b,cc)else none):=dM (by unfold nD;rw[hd])
 have e1:a_ (I.extract 0 p)=a:=by rw[pF,hl,hp];simp
 have e2:a_ (I.extract (p+1) q)=b:=by rw[pF,hl,hp,hq];exact LR a b cc
 have e3:a_ (I.extract (q+1) I.size)=cc:=by rw[pF,eo (by omega),hl,hq];exact LQ a b cc
 have e4:a_ (I.extract 0 q)=a++46::b:=by rw[pF,hl,hq,iu];exact I4 a b cc
 have z1:(I.extract 0 p).size≤4096:=by rw[←j_,e1];omega
 have z2:(I.extract (p+1) q).size≤4096:=by rw[←j_,e2];omega
 have z3:(I.extract (q+1) I.size).size≤4096:=by rw[←j_,e3];omega
 have z4:(I.extract 0 q).size≤4096:=by rw[←j_,e4];simp;omega
 have cy:=dM (fun W=>LD (I.extract 0 p) W (by omega))
 have cx:=dM (fun W=>LD (I.extract (p+1) q) W (by omega))
 have cw:=dM (fun W=>LD (I.extract (q+1) I.size) W (by omega))
 have dk:=dM e1
 have dj:=dM e2
 have di:=dM e3
 have dh:=dM e4
 have cZ:=dM z4
 subst hm
 rw[bt]at h5
 have aN:Blk w2 g 3 au.toList:=by unfold Blk;rw[hh]
 have cU:au.toList.length=cW*1:=by simpa using h4
 have bw:au.toList.take 2=[.int .i64 (p:Int),.int .i64 (q:Int)]:=h5
 have y0:w2.cell? ⟨g,0,none⟩=some (.int .i64 (p:Int)):=by rw[aN.cell 0,show au.toList[0]? =(au.toList.take 2)[0]? by rw[gI];rfl,bw];rfl
 have y1:w2.cell? ⟨g,1,none⟩=some (.int .i64 (q:Int)):=by rw[aN.cell 1,show au.toList[1]? =(au.toList.take 2)[1]? by rw[gI];rfl,bw];rfl
 have b0:(0:Int)≤(p:Int):=by omega
 have b1:(p:Int)≤(I.size:Int):=by omega
 have b2:IntKind.i64.wrap ((p:Int)+1)=((p+1:Nat):Int):=by rw[es];omega
 have b3:(0:Int)≤((p+1:Nat):Int):=by omega
 have b4:((p+1:Nat):Int)≤(q:Int):=by omega
 have dC:(0:Int)≤(p:Int)+1:=by omega
 have dB:(p:Int)+1≤(q:Int):=by omega
 have dA:(0:Int)≤(q:Int)+1:=by omega
 have dz:(q:Int)+1≤(I.size:Int):=by omega
 have b5:(q:Int)≤(I.size:Int):=by omega
 have b6:IntKind.i64.wrap ((q:Int)+1)=((q+1:Nat):Int):=by rw[es];omega
 have b7:(0:Int)≤((q+1:Nat):Int):=by omega
 have b8:((q+1:Nat):Int)≤(I.size:Int):=by omega
 have b9:(0:Int)≤(q:Int):=by omega
 have du:=aN.lt
 clear a7 bH ay bt hl hd hp hq bV cS e1 e2 e3 e4 z1 z2 z3 z4 h2 h3 h4 h5 hh aN cU bw N h1
 go_wp2_with(go_at_call 40;fail)
 (with_reducible refine(cy.out _).mono ?_)
 rintro e w3 ⟨br,G⟩
 have cF:=yab bg G
 have y0:=(G.cell (nc y0)).trans y0
 have y1:=(G.cell (nc y1)).trans y1
 clear G cy
 obtain⟨r1,n1,m1,rfl,bU⟩: ∃r n m,e= .returned (.tuple #[.string r,.int .i64 n,.int .i64 m])∧((n=0∧nM a= -1∧r=⟨(pS (g_ a)).toArray⟩)∨(n=20∧nM a≠ -1)):=by
  rw[dk.out]at br
  rcases br with⟨h,rfl⟩|⟨h,rfl⟩
  ·exact⟨_,_,_,rfl,.inl ⟨rfl,h,rfl⟩⟩
  ·exact⟨_,_,_,rfl,.inr ⟨rfl,by omega⟩⟩
 have aS:=dM bU
 clear br bU
 go_wp2_with fail
 have ah:=dM ((dU w3.heap.size w3).drew)
 have bN:Hid (∀X,Below w3.heap.size w3 X→X.cell? ⟨g,0,none⟩=some (.int .i64 (p:Int))∧X.cell? ⟨g,1,none⟩=some (.int .i64 (q:Int))):=dM fun X hX=>⟨(hX.cell (nc y0)).trans y0,(hX.cell (nc y1)).trans y1⟩
 clear y0 y1
 refine fh (S:=fun X=>X.cell? ⟨g,0,none⟩=some (.int .i64 (p:Int))∧X.cell? ⟨g,1,none⟩=some (.int .i64 (q:Int))) (by kernel_rfl) (bN.out _ ah.out) (fun aO=> ?_)
 refine mZ 0 ?_
 try simp only[k_]
 refine mZ 1 ?_
 try simp only[k_]
 refine mZ 2 ?_
 try simp only[k_]
 refine mZ 3 ?_
 try simp only[k_]
 refine mZ 4 ?_
 try simp only[k_]
 refine mZ 5 ?_
 try simp only[k_]
 refine mZ 6 ?_
 try simp only[k_]
 refine mZ 7 ?_
 try simp only[k_]
 refine mZ 8 ?_
 try simp only[k_]
 refine pn 9 (fun K hK=> ?_)
 go_simp
 go_at_call 40
 (with_reducible refine(cx.out _).mono ?_)
 rintro e w4 ⟨bq,G⟩
 have cE:=yab ah G
 obtain⟨r2,n2,m2,rfl,bT⟩: ∃r n m,e= .returned (.tuple #[.string r,.int .i64 n,.int .i64 m])∧((n=0∧nM b= -1∧r=⟨(pS (g_ b)).toArray⟩)∨(n=20∧nM b≠ -1)):=by
  rw[dj.out]at bq
  rcases bq with⟨h,rfl⟩|⟨h,rfl⟩
  ·exact⟨_,_,_,rfl,.inl ⟨rfl,h,rfl⟩⟩
  ·exact⟨_,_,_,rfl,.inr ⟨rfl,by omega⟩⟩
 have aR:=dM bT
 clear bq bT
 refine hK.out _ _ (bN.out _ cE.out) (fun cV=> ?_)
 clear hK K G aO
 try simp only[k_]
 refine mZ 10 ?_
 try simp only[k_]
 refine mZ 11 ?_
 try simp only[k_]
 refine mZ 12 ?_
 try simp only[k_]
 refine mZ 13 ?_
 try simp only[k_]
 refine mZ 14 ?_
 try simp only[k_]
 refine mZ 15 ?_
 try simp only[k_]
 refine mZ 16 ?_
 try simp only[k_]
 refine gC (by kernel_rfl) ?_ _
 obtain⟨y0,y1⟩:=cV
 have cD:=dM (cF.out.trans (cE.out.mono cF.out.size))
 go_wp2_with(go_at_call 40;fail)
 (with_reducible refine(cw.out _).mono ?_)
 rintro e w5 ⟨bp,G⟩
 have aW:=yab cD G
 have y0:=(G.cell (nc y0)).trans y0
 have y1:=(G.cell (nc y1)).trans y1
 clear G cx cw bN ah
 obtain⟨r3,n3,m3,rfl,bS⟩: ∃r n m,e= .returned (.tuple #[.string r,.int .i64 n,.int .i64 m])∧((n=0∧nM cc= -1∧r=⟨(pS (g_ cc)).toArray⟩)∨(n=20∧nM cc≠ -1)):=by
  rw[di.out]at bp
  rcases bp with⟨h,rfl⟩|⟨h,rfl⟩
  ·exact⟨_,_,_,rfl,.inl ⟨rfl,h,rfl⟩⟩
  ·exact⟨_,_,_,rfl,.inr ⟨rfl,by omega⟩⟩
 have aQ:=dM bS
 clear bp bS
 by_cases F:n1=0∧n2=0∧n3=0
 case neg=>
  have L:Hid (nu ks kind I=([],[],80)):=dM (by
   rw[bM.out,dN]
   rintro⟨g1,g2,g3⟩
   exact F ⟨by rcases aS.out with⟨h,_⟩|⟨_,h⟩;exact h;exact absurd g1 h,by rcases aR.out with⟨h,_⟩|⟨_,h⟩;exact h;exact absurd g2 h,by rcases aQ.out with⟨h,_⟩|⟨_,h⟩;exact h;exact absurd g3 h⟩)
  have c1:n1=0∨n1=20:=aS.out.imp (·.1) (·.1)
  have c2:n2=0∨n2=20:=aR.out.imp (·.1) (·.1)
  have c3:n3=0∨n3=20:=aQ.out.imp (·.1) (·.1)
  clear aS aR aQ
  rcases c1 with rfl|rfl
  ·rcases c2 with rfl|rfl
   ·rcases c3 with rfl|rfl
    ·exact absurd ⟨rfl,rfl,rfl⟩ F
    ·clear F
     go_wp2
     go_ret3
     exact .bad L.out aW.out
   ·clear F c3
    go_wp2
    go_ret3
    exact .bad L.out aW.out
  ·clear F c2 c3
   go_wp2
   go_ret3
   exact .bad L.out aW.out
 case pos=>
 obtain⟨rfl,rfl,rfl⟩:=F
 obtain⟨f1,g1⟩:nM a= -1∧r1=⟨(pS (g_ a)).toArray⟩:=by rcases aS.out with⟨_,h⟩|⟨h,_⟩;exact h;cases h
 obtain⟨f2,g2⟩:nM b= -1∧r2=⟨(pS (g_ b)).toArray⟩:=by rcases aR.out with⟨_,h⟩|⟨h,_⟩;exact h;cases h
 obtain⟨f3,g3⟩:nM cc= -1∧r3=⟨(pS (g_ cc)).toArray⟩:=by rcases aQ.out with⟨_,h⟩|⟨h,_⟩;exact h;cases h
 have HV:Hid (nu ks kind I=oe ks kind a b cc):=dM (by rw[bM.out,dP ⟨f1,f2,f3⟩])
 have hcut:nD (a_ I)=some (a,b,cc):=by rw[cB.out,dP ⟨f1,f2,f3⟩]
 have ax:(a_ I).length≤4096:=by rw[j_];omega
 have s1:a_ r1=g_ a:=by rw[g1];exact JE (F5 hcut (by simp) ax).1
 have s2:a_ r2=g_ b:=by rw[g2];exact JE (F5 hcut (by simp) ax).1
 have s3:a_ r3=g_ cc:=by rw[g3];exact JE (F5 hcut (by simp) ax).1
 have t1:r1.size≤4096:=by rw[←j_,s1];exact(F5 hcut (by simp) ax).2
 have da:=dM s2
 have co:=dM s3
 have ba:=dM (fun W=>r9 r1 W (by omega))
 rw[s1]at ba
 have bG:=dM (fun h=>M4 (g_ a) h)
 obtain⟨r,hr⟩:=yaa (nN (g_ a))
 rw[←hr]at ba bG
 obtain⟨j,no,po⟩:=r
 have HJ:=dM hr
 clear g1 g2 g3 f1 f2 f3 hcut ax s1 s2 s3 t1 aS aR aQ bM cB hr
 go_wp2_with(go_at_call 41;fail)
 (with_reducible refine(ba.out _).mono ?_)
 rintro e w6 ⟨x0,x1,x2,xA,xp,xc,xK,xq,xd,rfl,bo,G⟩
 have aD:=yab aW G
 have y0:=(G.cell (nc y0)).trans y0
 have y1:=(G.cell (nc y1)).trans y1
 have dc:=dM bo
 have HP:=dM bo.parts8
 have cr:=dM (nc y0)
 clear G bo ba
 dsimp only
 have cm:Hid (no=0→Rt j):=dM fun h=>((KU _).1 (bG.out h).1).1
 clear bG
 by_cases aZ:no=0
 case neg=>
  have L:Hid (nu ks kind I=([],[],81)):=dM (by rw[HV.out];unfold oe;rw[dP (re HJ.out (fun h=>aZ h.1))])
  have bz:(no==0)=false:=by rw[dY];exact aZ
  have cY:(no !=0)=true:=by rw[kb];exact aZ
  go_wp2_with(first
   |(refine nG rfl (some 19) rfl _ rfl _ BE ?_;intro Q w7 N G aa;have HA:=dM aa;have M:=dM N;clear aa N;try go_frame)
   |(refine nn rfl none rfl _ (.tmp 19) (.tmp 92) rfl Q 0 [.int .i64 x0,.int .i64 x1,.string x2,.slice xA xp xc,.slice xK xq xd] rfl rfl _ _ G (by simp[zeros5]) m8 (by intro v Y;simp at Y;rcases Y with rfl|rfl|rfl|rfl|rfl<;>rfl) ?_;intro U B Z;rw[nr _ _ (by simp[zeros5])]at B;have ak:=dM (FA (dU _ _) HA.out M.out Z);have cz:=dM B;have q0:U.cell? ⟨Q,0,none⟩=some (.int .i64 x0):=B.cell 0;have q1:U.cell? ⟨Q,1,none⟩=some (.int .i64 x1):=B.cell 1;have q2:U.cell? ⟨Q,2,none⟩=some (.string x2):=B.cell 2;have q3:U.cell? ⟨Q,3,none⟩=some (.slice xA xp xc):=B.cell 3;have q4:U.cell? ⟨Q,4,none⟩=some (.slice xK xq xd):=B.cell 4;have ai:=dM (aD.out.trans (ak.out.mono aD.out.size));have cf:=dM M.out;clear Z G B HA M;try go_frame))
  go_ret3
  exact .bad L.out ai.out
 case pos=>
 subst aZ
 by_cases h5:j.kind=5
 case neg=>
  have L:Hid (nu ks kind I=([],[],81)):=dM (by rw[HV.out];unfold oe;rw[dP (re HJ.out (fun h=>h5 h.2))])
  have bz: ¬x0=5:=by rw[HP.out.1];exact h5
  have cY:(x0 !=5)=true:=by rw[kb];exact bz
  have cX:(x0==5)=false:=by rw[dY];exact bz
  clear h5
  go_wp2_with(first
   |(refine nG rfl (some 19) rfl _ rfl _ BE ?_;intro Q w7 N G aa;have HA:=dM aa;have M:=dM N;clear aa N;try go_frame)
   |(refine nn rfl none rfl _ (.tmp 19) (.tmp 92) rfl Q 0 [.int .i64 x0,.int .i64 x1,.string x2,.slice xA xp xc,.slice xK xq xd] rfl rfl _ _ G (by simp[zeros5]) m8 (by intro v Y;simp at Y;rcases Y with rfl|rfl|rfl|rfl|rfl<;>rfl) ?_;intro U B Z;rw[nr _ _ (by simp[zeros5])]at B;have ak:=dM (FA (dU _ _) HA.out M.out Z);have cz:=dM B;have q0:U.cell? ⟨Q,0,none⟩=some (.int .i64 x0):=B.cell 0;have q1:U.cell? ⟨Q,1,none⟩=some (.int .i64 x1):=B.cell 1;have q2:U.cell? ⟨Q,2,none⟩=some (.string x2):=B.cell 2;have q3:U.cell? ⟨Q,3,none⟩=some (.slice xA xp xc):=B.cell 3;have q4:U.cell? ⟨Q,4,none⟩=some (.slice xK xq xd):=B.cell 4;have ai:=dM (aD.out.trans (ak.out.mono aD.out.size));have cf:=dM M.out;clear Z G B HA M;try go_frame))
  go_ret3
  exact .bad L.out ai.out
 case pos=>
 have ch:Hid (x0=5):=dM (by rw[HP.out.1];exact h5)
 have ct:=dM (AR HJ.out h5)
 have bF:=dM (cm.out rfl)
 have cX:(x0==5)=true:=by rw[ch.out];rfl
 have dD:(x0 !=5)=false:=by rw[ch.out];rfl
 clear h5 cm
 go_wp2_with(first
  |(refine nG rfl (some 19) rfl _ rfl _ BE ?_;intro Q w7 N G aa;have HA:=dM aa;have M:=dM N;clear aa N;try go_frame)
  |(refine nn rfl none rfl _ (.tmp 19) (.tmp 92) rfl Q 0 [.int .i64 x0,.int .i64 x1,.string x2,.slice xA xp xc,.slice xK xq xd] rfl rfl _ _ G (by simp[zeros5]) m8 (by intro v Y;simp at Y;rcases Y with rfl|rfl|rfl|rfl|rfl<;>rfl) ?_;intro U B Z;rw[nr _ _ (by simp[zeros5])]at B;have ak:=dM (FA (dU _ _) HA.out M.out Z);have cz:=dM B;have q0:U.cell? ⟨Q,0,none⟩=some (.int .i64 x0):=B.cell 0;have q1:U.cell? ⟨Q,1,none⟩=some (.int .i64 x1):=B.cell 1;have q2:U.cell? ⟨Q,2,none⟩=some (.string x2):=B.cell 2;have q3:U.cell? ⟨Q,3,none⟩=some (.slice xA xp xc):=B.cell 3;have q4:U.cell? ⟨Q,4,none⟩=some (.slice xK xq xd):=B.cell 4;have ai:=dM (aD.out.trans (ak.out.mono aD.out.size));have cf:=dM M.out;clear Z G B HA M;try go_frame)
  |fail)
 obtain⟨K,d,eK,ar,bX⟩:=HP.out.2.2.2.below ak.out
 injection eK with e1 e2 e3
 subst e1;subst e3
 have df:=dM bX
 have bA:=dM e2
 have db:=dM (RepJ.below ak.out _ _ dc.out)
 clear bX e2
 obtain⟨R,cd⟩:=yaa (j.k.all fun n=>decide (n=sAlg∨n=sKid∨n=sTyp))
 have dG:=dM cd
 clear cd
 have dt:xq≤9223372036854775807:=by rw[bA.out];exact ar
 clear ar
 go_loop [22] (fun v=> ∃i:Nat,v= .int .i64 (i:Int)∧i≤xq∧ ∀m,m<i→ ∀t,j.k[m]? =some t→t=sAlg∨t=sKid∨t=sTyp) (fun v=>xq-(intOf v).toNat)
 case atStart=>exact⟨0,rfl,eN _,fun m hm=>by omega⟩
 case round=>
  obtain⟨i,rfl,hi,cb⟩:=hrel
  have bj:=dM cb
  clear cb
  by_cases bv:i<xq
  ·have a6:i<j.k.length:=by rw[←bA.out];exact bv
   obtain⟨bk,ok,rfl,aN,bZ⟩:=df.out (fun e=>by rw[e]at a6;cases a6)
   obtain⟨t,bQ,ax,dw⟩:=bZ i a6
   have i0:(0:Int)≤(i:Int):=by omega
   have i1:(i:Int)<(xq:Int):=by omega
   have a8:=dM bQ
   clear bZ a6 bQ
   rcases qe (t:=t) Gh with⟨E,g1,g2⟩|⟨E1,g1,g2⟩
   ·have HE:=dM E
    clear E
    go_wp2
    go_round
    case rel=>exact⟨i+1,by go_num,by omega,fun m hm t' am=>by
     rcases eX m i with h|h
     ·exact bj.out m h t' am
     ·obtain rfl:m=i:=by omega
      have e:=a8.out.symm.trans am
      injection e with e
      rw[←e];exact .inl HE.out⟩
    case measure=>simp[intOf];omega
   rcases qe (t:=t) Gg with⟨E,g3,g4⟩|⟨E2,g3,g4⟩
   ·have HE:=dM E
    clear E
    go_wp2
    go_round
    case rel=>exact⟨i+1,by go_num,by omega,fun m hm t' am=>by
     rcases eX m i with h|h
     ·exact bj.out m h t' am
     ·obtain rfl:m=i:=by omega
      have e:=a8.out.symm.trans am
      injection e with e
      rw[←e];exact .inr (.inl HE.out)⟩
    case measure=>simp[intOf];omega
   rcases qe (t:=t) Gf with⟨E,g5,g6⟩|⟨E3,g5,g6⟩
   ·have HE:=dM E
    clear E
    go_wp2
    go_round
    case rel=>exact⟨i+1,by go_num,by omega,fun m hm t' am=>by
     rcases eX m i with h|h
     ·exact bj.out m h t' am
     ·obtain rfl:m=i:=by omega
      have e:=a8.out.symm.trans am
      injection e with e
      rw[←e];exact .inr (.inr HE.out)⟩
    case measure=>simp[intOf];omega
   have dn:=dM (Dd ct.out a8.out (by rintro(h|h|h);exact E1 h;exact E2 h;exact E3 h))
   have L:Hid (nu ks kind I=([],[],81)):=dM (by rw[HV.out];unfold oe;rw[dP dn.out])
   clear E1 E2 E3
   go_wp2
   go_ret3
   exact .bad L.out ai.out
  ·obtain rfl:i=xq:=by omega
   have bK:=dM (AQ ct.out (by rw[←bA.out];exact bj.out))
   have cT: ¬(i:Int)<(i:Int):=by omega
   have bL:=dM (fun(X:World) (hX:Below U.heap.size U X) (nm:ByteArray) (hn:nm.size≤9223372036854775807)=>Mk j _ nm X (RepJ.below hX _ _ db.out) hn)
   have y0:=(ak.out.cell cr.out).trans y0
   have y1:=(ak.out.cell (p:=⟨g,1,none⟩) cr.out).trans y1
   have az:Hid (∀X,Below U.heap.size U X→(X.cell? ⟨Q,0,none⟩=some (.int .i64 x0)∧X.cell? ⟨Q,1,none⟩=some (.int .i64 x1)∧X.cell? ⟨Q,2,none⟩=some (.string x2)∧X.cell? ⟨Q,3,none⟩=some (.slice xA xp xc)∧X.cell? ⟨Q,4,none⟩=some (.slice xK i xd))∧X.cell? ⟨g,0,none⟩=some (.int .i64 (p:Int))∧X.cell? ⟨g,1,none⟩=some (.int .i64 (q:Int))):=dM fun X hX=>⟨⟨(hX.cell (nc q0)).trans q0,(hX.cell (nc q1)).trans q1,(hX.cell (nc q2)).trans q2,(hX.cell (nc q3)).trans q3,(hX.cell (nc q4)).trans q4⟩,(hX.cell (nc y0)).trans y0,(hX.cell (nc y1)).trans y1⟩
   clear y0 y1
   go_wp2_with(go_at_call 42;fail)
   have bO:=dM (dU U.heap.size U)
   refine(bL.out _ bO.out sAlg (by decide)).mono ?_
   rintro e w9 ⟨av,rfl,af,G⟩
   obtain⟨a0,a1,a2,aA,ap,ac,aK,aq,ad,rfl⟩:=af.form
   have c9:=dM af.parts8.2.1
   have cC:=yab bO G
   clear G af
   go_wp2_with(first
    |(refine nG rfl (some 23) rfl _ rfl _ BE ?_;intro gb ds N G aa;have HA:=dM aa;have M:=dM N;clear aa N;try go_frame)
    |(refine nn rfl none rfl _ (.tmp 23) (.tmp 134) rfl gb 0 [.int .i64 a0,.int .i64 a1,.string a2,.slice aA ap ac,.slice aK aq ad] rfl rfl _ _ G (by simp[zeros5]) m8 (by intro v Y;simp at Y;rcases Y with rfl|rfl|rfl|rfl|rfl<;>rfl) ?_;intro aG B Z;rw[nr _ _ (by simp[zeros5])]at B;have de:=dM (FA (dU _ _) HA.out M.out Z);have dI:=dM B;have cP:aG.cell? ⟨gb,0,none⟩=some (.int .i64 a0):=B.cell 0;have cO:aG.cell? ⟨gb,1,none⟩=some (.int .i64 a1):=B.cell 1;have ab:aG.cell? ⟨gb,2,none⟩=some (.string a2):=B.cell 2;have cN:aG.cell? ⟨gb,3,none⟩=some (.slice aA ap ac):=B.cell 3;have cM:aG.cell? ⟨gb,4,none⟩=some (.slice aK aq ad):=B.cell 4;have bi:=dM (cC.out.trans (de.out.mono cC.out.size));have dF:=dM M.out;clear Z G B HA M;clear cP cO cN cM;clear q0 q1 q2 q3 q4;obtain⟨⟨q0,q1,q2,q3,q4⟩, -, -⟩:=az.out _ bi.out;try go_frame)
    |(go_at_call 42;fail))
   refine(bL.out _ bi.out sTyp (by decide)).mono ?_
   rintro e dr ⟨tv,rfl,af,G⟩
   obtain⟨t0,t1,t2,tA,tp,tc,tK,tq,td,rfl⟩:=af.form
   have c6:=dM af.parts8.2.1
   have ab:=(G.cell (nc ab)).trans ab
   have cG:=yab bi G
   clear G af
   go_wp2_with(first
    |(refine nG rfl (some 25) rfl _ rfl _ BE ?_;intro gc dq N G aa;have HA:=dM aa;have M:=dM N;clear aa N;try go_frame)
    |(refine nn rfl none rfl _ (.tmp 25) (.tmp 139) rfl gc 0 [.int .i64 t0,.int .i64 t1,.string t2,.slice tA tp tc,.slice tK tq td] rfl rfl _ _ G (by simp[zeros5]) m8 (by intro v Y;simp at Y;rcases Y with rfl|rfl|rfl|rfl|rfl<;>rfl) ?_;intro aF B Z;rw[nr _ _ (by simp[zeros5])]at B;have cq:=dM (FA (dU _ _) HA.out M.out Z);have dH:=dM B;have cL:aF.cell? ⟨gc,0,none⟩=some (.int .i64 t0):=B.cell 0;have cK:aF.cell? ⟨gc,1,none⟩=some (.int .i64 t1):=B.cell 1;have ae:aF.cell? ⟨gc,2,none⟩=some (.string t2):=B.cell 2;have cJ:aF.cell? ⟨gc,3,none⟩=some (.slice tA tp tc):=B.cell 3;have cI:aF.cell? ⟨gc,4,none⟩=some (.slice tK tq td):=B.cell 4;have bh:=dM (cG.out.trans (cq.out.mono cG.out.size));have dE:=dM M.out;clear Z G B HA M;have ab:=(cq.out.cell (nc ab)).trans ab;clear cL cK cJ cI;clear q0 q1 q2 q3 q4;obtain⟨⟨q0,q1,q2,q3,q4⟩, -, -⟩:=az.out _ bh.out;try go_frame)
    |(go_at_call 42;fail))
   refine(bL.out _ bh.out sKid (by decide)).mono ?_
   rintro e dp ⟨kv,rfl,af,G⟩
   obtain⟨k0,k1,k2,kA,kp,kc,kK,kq,kd,rfl⟩:=af.form
   have c7:=dM af.parts8.2.1
   have ab:=(G.cell (nc ab)).trans ab
   have ae:=(G.cell (nc ae)).trans ae
   have aE:=yab bh G
   clear G af
   have bW:kind≠⟨#[]⟩:=fun e=>by have:=(Hk bc.out.symm).1;rw[e]at this;exact absurd this (by decide)
   have bE:=dM (show nk j sAlg sHS=decide (a2=sHS)by rw[c9.out];exact xf bF.out (by decide))
   have cn:=dM (show nk j sTyp kind=decide (t2=kind)by rw[c6.out];exact xf bF.out bW)
   have c8:=dM (fun(t:ByteArray) (ht:t≠⟨#[]⟩)=>show nk j sKid t=decide (k2=t)by rw[c7.out];exact xf bF.out ht)
   have bI:Hid ((nN (g_ a)).1=j):=dM (by rw[←HJ.out])
   clear bW
   rcases qe (t:=a2) IC with⟨E,g1,g2⟩|⟨E,g1,g2⟩
   case inr=>
    have L:Hid (nu ks kind I=([],[],82)):=dM (by rw[HV.out];unfold oe;rw[bI.out,dN (by rw[bK.out];decide),dP (by rw[bE.out];exact dT E)])
    clear E
    go_wp2_with(first
     |(refine nG rfl (some 27) rfl _ rfl _ BE ?_;intro O bP N G aa;have HA:=dM aa;have M:=dM N;clear aa N;try go_frame)
     |(refine nn rfl none rfl _ (.tmp 27) (.tmp 144) rfl O 0 [.int .i64 k0,.int .i64 k1,.string k2,.slice kA kp kc,.slice kK kq kd] rfl rfl _ _ G (by simp[zeros5]) m8 (by intro v Y;simp at Y;rcases Y with rfl|rfl|rfl|rfl|rfl<;>rfl) ?_;intro V B Z;rw[nr _ _ (by simp[zeros5])]at B;have ag:=dM (FA (dU _ _) HA.out M.out Z);have cA:=dM B;have aM:V.cell? ⟨O,0,none⟩=some (.int .i64 k0):=B.cell 0;have aL:V.cell? ⟨O,1,none⟩=some (.int .i64 k1):=B.cell 1;have aJ:V.cell? ⟨O,2,none⟩=some (.string k2):=B.cell 2;have aI:V.cell? ⟨O,3,none⟩=some (.slice kA kp kc):=B.cell 3;have aH:V.cell? ⟨O,4,none⟩=some (.slice kK kq kd):=B.cell 4;have aj:=dM (aE.out.trans (ag.out.mono aE.out.size));have cg:=dM M.out;clear Z G B HA M;have ab:=(ag.out.cell (nc ab)).trans ab;have ae:=(ag.out.cell (nc ae)).trans ae;clear aM aL aI aH;clear q0 q1 q2 q3 q4;obtain⟨⟨q0,q1,q2,q3,q4⟩, -, -⟩:=az.out _ aj.out;try go_frame))
    go_ret3
    exact .bad L.out (ai.out.trans (aj.out.mono ai.out.size))
   have cu:=dM E
   clear E
   rcases qe (t:=t2) (u:=kind) rfl with⟨E,g3,g4⟩|⟨E,g3,g4⟩
   case inr=>
    have L:Hid (nu ks kind I=([],[],81)):=dM (by rw[HV.out];unfold oe;rw[bI.out,dN (by rw[bK.out];decide),dN (by rw[bE.out,ec cu.out];decide),dP (by rw[cn.out];exact dT E)])
    clear E
    go_wp2_with(first
     |(refine nG rfl (some 27) rfl _ rfl _ BE ?_;intro O bP N G aa;have HA:=dM aa;have M:=dM N;clear aa N;try go_frame)
     |(refine nn rfl none rfl _ (.tmp 27) (.tmp 144) rfl O 0 [.int .i64 k0,.int .i64 k1,.string k2,.slice kA kp kc,.slice kK kq kd] rfl rfl _ _ G (by simp[zeros5]) m8 (by intro v Y;simp at Y;rcases Y with rfl|rfl|rfl|rfl|rfl<;>rfl) ?_;intro V B Z;rw[nr _ _ (by simp[zeros5])]at B;have ag:=dM (FA (dU _ _) HA.out M.out Z);have cA:=dM B;have aM:V.cell? ⟨O,0,none⟩=some (.int .i64 k0):=B.cell 0;have aL:V.cell? ⟨O,1,none⟩=some (.int .i64 k1):=B.cell 1;have aJ:V.cell? ⟨O,2,none⟩=some (.string k2):=B.cell 2;have aI:V.cell? ⟨O,3,none⟩=some (.slice kA kp kc):=B.cell 3;have aH:V.cell? ⟨O,4,none⟩=some (.slice kK kq kd):=B.cell 4;have aj:=dM (aE.out.trans (ag.out.mono aE.out.size));have cg:=dM M.out;clear Z G B HA M;have ab:=(ag.out.cell (nc ab)).trans ab;have ae:=(ag.out.cell (nc ae)).trans ae;clear aM aL aI aH;clear q0 q1 q2 q3 q4;obtain⟨⟨q0,q1,q2,q3,q4⟩, -, -⟩:=az.out _ aj.out;try go_frame))
    go_ret3
    exact .bad L.out (ai.out.trans (aj.out.mono ai.out.size))
   have cj:Hid (nu ks kind I=IK a b cc (ks.find? (fun k=>nk j sKid k.1))):=dM (by rw[HV.out];unfold oe;rw[bI.out,dN (by rw[bK.out];decide),dN (by rw[bE.out,ec cu.out];decide),dN (by rw[cn.out,ec E];decide)];cases ks.find? (fun k=>nk j sKid k.1)<;>rfl)
   clear E
   go_wp2_with(first
    |(refine nG rfl (some 27) rfl _ rfl _ BE ?_;intro O bP N G aa;have HA:=dM aa;have M:=dM N;clear aa N;try go_frame)
    |(refine nn rfl none rfl _ (.tmp 27) (.tmp 144) rfl O 0 [.int .i64 k0,.int .i64 k1,.string k2,.slice kA kp kc,.slice kK kq kd] rfl rfl _ _ G (by simp[zeros5]) m8 (by intro v Y;simp at Y;rcases Y with rfl|rfl|rfl|rfl|rfl<;>rfl) ?_;intro V B Z;rw[nr _ _ (by simp[zeros5])]at B;have ag:=dM (FA (dU _ _) HA.out M.out Z);have cA:=dM B;have aM:V.cell? ⟨O,0,none⟩=some (.int .i64 k0):=B.cell 0;have aL:V.cell? ⟨O,1,none⟩=some (.int .i64 k1):=B.cell 1;have aJ:V.cell? ⟨O,2,none⟩=some (.string k2):=B.cell 2;have aI:V.cell? ⟨O,3,none⟩=some (.slice kA kp kc):=B.cell 3;have aH:V.cell? ⟨O,4,none⟩=some (.slice kK kq kd):=B.cell 4;have aj:=dM (aE.out.trans (ag.out.mono aE.out.size));have cg:=dM M.out;clear Z G B HA M;have ab:=(ag.out.cell (nc ab)).trans ab;have ae:=(ag.out.cell (nc ae)).trans ae;clear aM aL aI aH;clear q0 q1 q2 q3 q4;obtain⟨⟨q0,q1,q2,q3,q4⟩, -, -⟩:=az.out _ aj.out;try go_frame)
    |fail)
   have aC:=dM (ai.out.trans (aj.out.mono ai.out.size))
   have dl:Hid (∀X,Below V.heap.size V X→X.cell? ⟨O,2,none⟩=some (.string k2)∧X.cell? ⟨g,0,none⟩=some (.int .i64 (p:Int))∧X.cell? ⟨g,1,none⟩=some (.int .i64 (q:Int))):=dM fun X hX=>⟨(hX.cell (nc aJ)).trans aJ,(az.out _ (aj.out.trans (hX.mono aj.out.size))).2⟩
   clear q0 q1 q2 q3 q4 ab ae aJ g1 g2 g3 g4
   obtain⟨R,hR⟩:=yaa (ks.find? (fun k=>nk j sKid k.1))
   have ci:=dM (show nu ks kind I=IK a b cc R by rw[cj.out,hR])
   have dd:=dM hR
   clear hR cj
   go_loopw[29] (fun v wr=> ∃i:Nat,v= .int .i64 (i:Int)∧i≤n∧R=(ks.drop i).find? (fun k=>nk j sKid k.1)∧Below V.heap.size V wr) (fun v _=>n-(intOf v).toNat)
   case atStart=>exact⟨0,rfl,eN _,dd.out,dU _ _⟩
   case round=>
    obtain⟨m,rfl,hm,bR,ca⟩:=hrel
    have aV:=dM ca
    have cp:=dM bR
    clear ca bR
    by_cases bv:m<n
    ·have ar:m<ks.length:=by rw[HN.out];exact bv
     have aY:=(Hl aP.out.symm).2.2 _ (fe ar)
     have bC:=dM (cp.out.trans (rk (fun k=>nk j sKid k.1) ks ar))
     have bx:=aC.out.trans (aV.out.mono aC.out.size)
     obtain⟨bb,oo,rfl,_,x0,x1⟩:=(HR.out.below bx).at ar
     obtain⟨y,hy⟩:=yaa (ks[m])
     rw[←hy]at x0 x1 bC aY
     obtain⟨e1,e2⟩:=y
     have bY:e1≠⟨#[]⟩:=fun e=>by have h1:1≤e1.size:=(Hk aY.1).1;rw[e]at h1;exact absurd h1 (by decide)
     have ck:=dM (c8.out e1 bY)
     have dv:e2.size≤128:=aY.2.2
     have dJ:=dM bx
     obtain⟨z2,y0,y1⟩:=dl.out _ aV.out
     have i0:(0:Int)≤(m:Int):=by omega
     have i1:(m:Int)<(n:Int):=by omega
     clear hy ar aY bY bx
     rcases qe (t:=e1) (u:=k2) rfl with⟨E,g1,g2⟩|⟨E,g1,g2⟩
     case inr=>
      have bJ:Hid (R=(ks.drop (m+1)).find? (fun k=>nk j sKid k.1)):=dM (by rw[bC.out,dN (by rw[ck.out,dT (fun h=>E h.symm)];decide)])
      clear E
      go_wp2_with fail
      go_quiet (fail)
      go_wp2
      go_roundw
      case rel=>exact⟨m+1,by go_num,by omega,bJ.out,rG aV.out _⟩
      case measure=>simp[intOf];omega
     case inl=>
      have dg:=dM E
      have bJ:Hid (R=some (e1,e2)):=dM (by rw[bC.out,dP (by rw[ck.out];exact ec E.symm)])
      have aU:=dM (fun W=>Ml e2 (I.extract 0 q) W (by omega) (by have:=cZ.out;omega))
      clear E
      go_wp2_with fail
      go_quiet (fail)
      go_wp2_with fail
      obtain⟨wd,aw⟩: ∃W,W=wr.drewN nq:=⟨_,rfl⟩
      rw[←aw]
      have dm:Hid (Below V.heap.size V wd):=dM (by rw[aw];exact rG aV.out _)
      have bn:wd.cell? ⟨bb,oo+m*2+1,none⟩=some (.string e2):=by rw[aw];exact x1
      have bm:wd.cell? ⟨g,1,none⟩=some (.int .i64 (q:Int)):=by rw[aw];exact y1
      have bl:wd.cell? ⟨O,2,none⟩=some (.string k2):=by rw[aw];exact z2
      have bd:Hid (∀X,Below wd.heap.size wd X→X.cell? ⟨bb,oo+m*2+1,none⟩=some (.string e2)∧X.cell? ⟨g,1,none⟩=some (.int .i64 (q:Int))∧X.cell? ⟨O,2,none⟩=some (.string k2)):=dM fun X hX=>⟨(hX.cell (nc bn)).trans bn,(hX.cell (nc bm)).trans bm,(hX.cell (nc bl)).trans bl⟩
      have ah:=dM ((dU wd.heap.size wd).drew)
      have bD:Bytes (nA (a_ e2) (a++46::b)):=BU _
      rw[dh.out]at aU
      have bB:Hid (nu ks kind I=if nA (a_ e2) (a++46::b)=g_ cc then(g_ b,a_ e1,0)else([],[],84)):=dM (by rw[ci.out,bJ.out];rfl)
      obtain⟨D,hD⟩:=yaa (nA (a_ e2) (a++46::b))
      rw[←hD]at aU bB bD
      have sT:=D2 bD
      obtain⟨T,hT⟩:=yaa (oH D)
      rw[←hT]at aU sT
      have cl:=dM sT
      have bf:=dM (aC.out.trans (dm.out.mono aC.out.size))
      clear aw x0 x1 z2 y0 y1 bn bm bl hD hT bD sT g1 g2
      rcases qe (t:=T) (u:=r3) rfl with⟨E,g1,g2⟩|⟨E,g1,g2⟩
      case inr=>
       have L:Hid (nu ks kind I=([],[],84)):=dM (by rw[bB.out,dN (fun h=>E (qy (by rw[cl.out,co.out];exact h)))])
       clear E
       refine fh (S:=fun X=>X.cell? ⟨bb,oo+m*2+1,none⟩=some (.string e2)∧X.cell? ⟨g,1,none⟩=some (.int .i64 (q:Int))∧X.cell? ⟨O,2,none⟩=some (.string k2)) (by kernel_rfl) (bd.out _ ah.out) (fun aO=> ?_)
       refine mZ 0 ?_
       try simp only[k_]
       refine mZ 1 ?_
       try simp only[k_]
       refine mZ 2 ?_
       try simp only[k_]
       refine mZ 3 ?_
       try simp only[k_]
       refine mZ 4 ?_
       try simp only[k_]
       refine mZ 5 ?_
       try simp only[k_]
       refine mZ 6 ?_
       try simp only[k_]
       refine mZ 7 ?_
       try simp only[k_]
       refine mZ 8 ?_
       try simp only[k_]
       refine mZ 9 ?_
       try simp only[k_]
       refine mZ 11 ?_
       try simp only[k_]
       refine pn 10 (fun K hK=> ?_)
       go_simp
       go_at_call 43
       (with_reducible refine(aU.out _).mono ?_)
       rintro e cH ⟨rfl,G⟩
       have aX:=yab ah G
       refine hK.out _ _ (bd.out _ aX.out) (fun ce=> ?_)
       clear hK K G aO
       try simp only[k_]
       refine mZ 12 ?_
       try simp only[k_]
       refine gC (by kernel_rfl) ?_ _
       go_wp2
       go_ret3
       exact .bad L.out (bf.out.trans (aX.out.mono bf.out.size))
      case inl=>
       have L:Hid (nu ks kind I=(g_ b,a_ e1,0)):=dM (by rw[bB.out,dP (by rw[←cl.out,←co.out,E])])
       clear E
       refine fh (S:=fun X=>X.cell? ⟨bb,oo+m*2+1,none⟩=some (.string e2)∧X.cell? ⟨g,1,none⟩=some (.int .i64 (q:Int))∧X.cell? ⟨O,2,none⟩=some (.string k2)) (by kernel_rfl) (bd.out _ ah.out) (fun aO=> ?_)
       refine mZ 0 ?_
       try simp only[k_]
       refine mZ 1 ?_
       try simp only[k_]
       refine mZ 2 ?_
       try simp only[k_]
       refine mZ 3 ?_
       try simp only[k_]
       refine mZ 4 ?_
       try simp only[k_]
       refine mZ 5 ?_
       try simp only[k_]
       refine mZ 6 ?_
       try simp only[k_]
       refine mZ 7 ?_
       try simp only[k_]
       refine mZ 8 ?_
       try simp only[k_]
       refine mZ 9 ?_
       try simp only[k_]
       refine mZ 11 ?_
       try simp only[k_]
       refine pn 10 (fun K hK=> ?_)
       go_simp
       go_at_call 43
       (with_reducible refine(aU.out _).mono ?_)
       rintro e cH ⟨rfl,G⟩
       have aX:=yab ah G
       refine hK.out _ _ (bd.out _ aX.out) (fun ce=> ?_)
       clear hK K G aO
       try simp only[k_]
       refine mZ 12 ?_
       try simp only[k_]
       refine gC (by kernel_rfl) ?_ _
       obtain⟨-, -,z2⟩:=ce
       go_wp2_with fail
       go_quiet (fail)
       go_wp2
       go_ret3
       exact⟨r2,k2,by rw[L.out];rfl,by rw[L.out,da.out],by rw[L.out,dg.out],rG (bf.out.trans (aX.out.mono bf.out.size)) _⟩
    ·obtain rfl:m=n:=by omega
     have cT: ¬(m:Int)<(m:Int):=by omega
     have L:Hid (nu ks kind I=([],[],83)):=dM (by rw[ci.out,cp.out,fB (iw HN.out)];rfl)
     go_wp2
     go_ret3
     exact .bad L.out (aC.out.trans (aV.out.mono aC.out.size))
end Go.Proofs.YtceddodfddlncaaGreatDoor
