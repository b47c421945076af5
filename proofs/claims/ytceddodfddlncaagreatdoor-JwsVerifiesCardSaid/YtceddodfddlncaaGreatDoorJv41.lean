/- Proved: for every list of keys, every kind and every text the law JwsVerifies returns true: Verify tells the payload and the Kid of a text that is signed, or the number of its refusal. The conditions: six package variables (sha's start and roots, errors' errorType, utf's firstMarks, unicode/utf8's first and acceptRanges) hold at the call what the program's text lays (tied by the card). -/
import Derived.Test.YtceddodfddlncaaGreatDoorTie
import Derived.SevenTiedAt
import Derived.Test.YtceddodfddlncaaGreatDoorCards
import Derived.Test.YtceddodfddlncaaGreatDoorJv31
import Derived.Test.YtceddodfddlncaaGreatDoorJv32
import Derived.Test.YtceddodfddlncaaGreatDoorJv39
import Derived.Test.YtceddodfddlncaaGreatDoorJv40
set_option maxRecDepth 100000
set_option maxHeartbeats 16000000
set_option linter.all false
namespace Go.Proofs.YtceddodfddlncaaGreatDoor
open Go Go.RowKit Go.Proofs.Tryz
open Go.ChangeShapes Go.WideShapes Go.ChangeAt Go.Proofs.Tryz
open Go.ChangeMaps (open_string shut_string)
def jT:=@trodAll_cons
theorem qk:laidOutB prog=true:=by kernel_rfl
theorem Ol (q:Os) {H:Type} (enc:TypeId×Value→H):
  (OpenSpec.ofChange Rows.jwsVerifiesSpec).preRow enc prog Tryz.f4 Rows.jwsVerifiesRow.domain false Rows.jwsVerifiesRow.laid ((Ee q).forCall (fun _ _=>0) ⟨#[],#[.slice none 0 0,.string ⟨#[]⟩,.string ⟨#[]⟩],[]⟩).memory #[.slice none 0 0,.string ⟨#[]⟩,.string ⟨#[]⟩]:=by
 have E:(DataW.whole enc prog ((Ee q).forCall (fun _ _=>0) ⟨#[],#[.slice none 0 0,.string ⟨#[]⟩,.string ⟨#[]⟩],[]⟩).memory Tryz.f4.params.toList (OpenSpec.ofChange Rows.jwsVerifiesSpec).vars false #[Value.slice none 0 0,Value.string ⟨#[]⟩,Value.string ⟨#[]⟩].toList 8).map (fun x=>(x.1,x.2.1))=
   some ([.nil,.lit (.string []),.lit (.string [])],[]):=by kernel_rfl
 obtain⟨⟨L,I,G⟩,D,B⟩:=ij.1 E
 simp only[Prod.mk.injEq]at B
 obtain⟨rfl,rfl⟩:=B
 exact OpenSpec.preRow_of_cond 8 D (by kernel_rfl) (fun k F=>by cases F) (by kernel_rfl) (Nn _ _)
theorem Oj (B:Os) (aa:B.Started) (H:Type) (enc:TypeId×Value→H) (F:Stop.Interp):
  ReturnsInHanded {} Tryz.checked B 4 .any ((OpenSpec.ofChange Rows.jwsVerifiesSpec).preRow enc prog Tryz.f4 Rows.jwsVerifiesRow.domain false Rows.jwsVerifiesRow.laid)
   (((OpenSpec.ofChange Rows.jwsVerifiesSpec).at F).post enc prog Tryz.f4 false true false false):=by
 refine returnsInHanded_of_row (C:=Tryz.checked) (s:=OpenSpec.ofChange Rows.jwsVerifiesSpec) uo aa (by kernel_rfl) func4
  (witness_row_at (enc:=enc) (C:=Tryz.checked) false (Ee B) #[.slice none 0 0,.string ⟨#[]⟩,.string ⟨#[]⟩] (Nf _) (by kernel_rfl) (by kernel_rfl) (by kernel_rfl) (Ol B enc)) ?_
 intro W base args ds gs au Q R _ _ _ hL ad _
 have D: ∀(j:Nat) t v,Tryz.f4.params[j]? =some t→args[j]? =some v→Value.okWide prog W .any base t v:=Q
 have I:=R
 obtain⟨p,q,V,U,rfl,_,_⟩:=R
 have X:DataW.TrodAll enc prog W 0 (fun _=>true) true Tryz.f4.params.toList args.toList ds p:=V
 rw[params4]at X D
 obtain⟨v0,ao,Y,ar,O,q0,ai,rfl,rfl,h0,ag⟩:=jT X
 obtain⟨N,am,d1,aq,p1,q1,rfl,rfl,rfl,h1,af⟩:=jT ag
 obtain⟨M,ak,d2,ap,p2,q2,rfl,rfl,rfl,h2,ae⟩:=jT af
 obtain⟨rfl,rfl,rfl⟩:=trodAll_nil ae
 obtain rfl:args= #[v0,N,M]:=by cases args;simp_all
 clear ai
 obtain⟨rfl,rfl⟩:=trodVars_none U
 have aj:=h0
 obtain⟨A0,n0,c0,ab,rfl,a0,b0,m0,o0,r0⟩:=q6 (D 0 22 v0 rfl rfl) h0
 obtain⟨G,rfl,rfl,rfl,w1⟩:=open_string ew (D 1 9 N rfl rfl) h1
 obtain⟨E,rfl,rfl,rfl,Z⟩:=open_string ew (D 2 9 M rfl rfl) h2
 clear V U Q
 simp only[fM]at I
 have ah: ∀x∈O,x.block<W.heap.size:=fun x hx=>I.lt x (by simp[hx])
 refine(N_ ab A0 n0 c0 G E W a0 m0 b0 o0 r0 (zw hL ad)).mono ?_
 rintro e W' ⟨rfl,bel⟩
 have L:((OpenSpec.ofChange Rows.jwsVerifiesSpec).at F).fn H ([Y,.lit (.string G.data.toList),.lit (.string E.data.toList)]++[])={results:=[.lit (.bool true)],args:=[Y,.lit (.string G.data.toList),.lit (.string E.data.toList)]}:=rfl
 refine⟨_,rfl,_,_,_,[],(O++([]++([]))),[],I,?_,?_,?_,bel.frame _,fun h=>by cases h⟩
 ·rw[L];exact trodAll_mk1 (shut_bool fV _)
 ·rw[L];exact(⟨_,_,(Below.trod qk (by kernel_rfl) (fG (by kernel_rfl)) aj bel ah),⟨_,_,(shut_string ew w1),trodAll_mk1 (shut_string ew Z),rfl⟩,rfl⟩)
 ·rw[L];rfl
theorem Oe:Rows.JwsVerifiesSaid:=
 OpenClaim.holds_of_cond 4 Tryz.f4 rfl rfl rfl rfl rfl rfl rfl ⟨rfl,rfl,rfl,rfl,rfl⟩ rfl rfl rfl rfl rfl (by kernel_rfl) func4 Og
  (fG (by kernel_rfl)) (by unfold Func.isWrapper;rw[dN (jX (by kernel_rfl))];exact⟨rfl,rfl⟩)
  (fun B q H enc _ D=>by rw[OpenClaim.pre_eq_preRow];exact Oj B q H enc D)
theorem jwsVerifies_card:Rows.JwsVerifiesCardSaid:=
 Claim7.holds_tied_plain_at .later [] [.data,.data,.data,.handle,.data,.pinned] true (true, "e7985848cb6f30b6d4f7bbcd454f29335594b1fda69663c15b573e5eaaa62ed7") true
  Oe (fun _ h=>by cases h) (by kernel_rfl) (fun _ h=>by cases h) jwsVerifies_row_tie rfl ⟨rfl,rfl⟩ (by kernel_rfl) rfl
  (fun f G E D=>by
   obtain rfl:f=4:=gd ((show prog.funcNamed "warrant/warrantlaw08.JwsVerifies" =some 4 by kernel_rfl).symm.trans E)|>.symm
   obtain rfl:G=Tryz.f4:=(gd (func4.symm.trans D)).symm
   exact⟨by kernel_rfl,fun j t q=>by
    rw[params4]at q
    have B:t∈[22,9]:=by
     have:=Array.mem_of_getElem? q
     simpa using this
    have F:([22,9].all fun u=> !prog.wantsStandIn u)=true:=by kernel_rfl
    exact(show prog.wantsStandIn t=false by simpa using kr.1 F t B)⟩)
  (by kernel_rfl)
end Go.Proofs.YtceddodfddlncaaGreatDoor
