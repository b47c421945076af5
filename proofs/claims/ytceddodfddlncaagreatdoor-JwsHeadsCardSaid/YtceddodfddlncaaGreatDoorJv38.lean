/- Proved: for every list of keys, every kind, header and payload the law JwsHeads returns true: of a header signed by a right key Verify tells what the reference says. The conditions: six package variables (sha's start and roots, errors' errorType, utf's firstMarks, unicode/utf8's first and acceptRanges) hold at the call what the program's text lays (tied by the card). -/
import Derived.Test.YtceddodfddlncaaGreatDoorTie
import Derived.SevenTiedAt
import Derived.Test.YtceddodfddlncaaGreatDoorCards
import Derived.Test.YtceddodfddlncaaGreatDoorJv31
import Derived.Test.YtceddodfddlncaaGreatDoorJv32
import Derived.Test.YtceddodfddlncaaGreatDoorJv36
import Derived.Test.YtceddodfddlncaaGreatDoorJv37
set_option maxRecDepth 100000
set_option maxHeartbeats 16000000
set_option linter.all false
namespace Go.Proofs.YtceddodfddlncaaGreatDoor
open Go Go.RowKit Go.Proofs.Tryz
open Go.ChangeShapes Go.WideShapes Go.ChangeAt Go.Proofs.Tryz
open Go.ChangeMaps (open_string shut_string)
def jS:=@trodAll_cons
theorem FI {n:Int} (h:(Lit.int .u8 n).wf=true):0≤n∧n≤255:=by
 unfold Lit.wf at h
 rw[fb]at h
 have h1:IntKind.u8.min≤n:=fG h.1
 have q:n≤IntKind.u8.max:=fG h.2
 exact⟨h1,q⟩
theorem qk:laidOutB prog=true:=by kernel_rfl
theorem Od (q:Os) {H:Type} (enc:TypeId×Value→H):
  (OpenSpec.ofChange Rows.jwsHeadsSpec).preRow enc prog Tryz.f5 Rows.jwsHeadsRow.domain false Rows.jwsHeadsRow.laid ((Ee q).forCall (fun _ _=>0) ⟨#[],#[.slice none 0 0,.int .u8 0,.string ⟨#[]⟩,.string ⟨#[]⟩,.string ⟨#[]⟩],[]⟩).memory #[.slice none 0 0,.int .u8 0,.string ⟨#[]⟩,.string ⟨#[]⟩,.string ⟨#[]⟩]:=by
 have E:(DataW.whole enc prog ((Ee q).forCall (fun _ _=>0) ⟨#[],#[.slice none 0 0,.int .u8 0,.string ⟨#[]⟩,.string ⟨#[]⟩,.string ⟨#[]⟩],[]⟩).memory Tryz.f5.params.toList (OpenSpec.ofChange Rows.jwsHeadsSpec).vars false #[Value.slice none 0 0,Value.int .u8 0,Value.string ⟨#[]⟩,Value.string ⟨#[]⟩,Value.string ⟨#[]⟩].toList 8).map (fun x=>(x.1,x.2.1))=
   some ([.nil,.lit (.int .u8 0),.lit (.string []),.lit (.string []),.lit (.string [])],[]):=by kernel_rfl
 obtain⟨⟨L,I,G⟩,D,B⟩:=ij.1 E
 simp only[Prod.mk.injEq]at B
 obtain⟨rfl,rfl⟩:=B
 exact OpenSpec.preRow_of_cond 8 D (by kernel_rfl) (fun k F=>by cases F) (by kernel_rfl) (Nn _ _)
theorem N9 (D:Os) (aa:D.Started) (H:Type) (enc:TypeId×Value→H) (F:Stop.Interp):
  ReturnsInHanded {} Tryz.checked D 5 .any ((OpenSpec.ofChange Rows.jwsHeadsSpec).preRow enc prog Tryz.f5 Rows.jwsHeadsRow.domain false Rows.jwsHeadsRow.laid)
   (((OpenSpec.ofChange Rows.jwsHeadsSpec).at F).post enc prog Tryz.f5 false true false false):=by
 refine returnsInHanded_of_row (C:=Tryz.checked) (s:=OpenSpec.ofChange Rows.jwsHeadsSpec) uo aa (by kernel_rfl) func5
  (witness_row_at (enc:=enc) (C:=Tryz.checked) false (Ee D) #[.slice none 0 0,.int .u8 0,.string ⟨#[]⟩,.string ⟨#[]⟩,.string ⟨#[]⟩] (Nf _) (by kernel_rfl) (by kernel_rfl) (by kernel_rfl) (Od D enc)) ?_
 intro W base args ds gs aA V X _ _ _ hL ad _
 have B: ∀(j:Nat) t v,Tryz.f5.params[j]? =some t→args[j]? =some v→Value.okWide prog W .any base t v:=V
 have N:=X
 obtain⟨p,q,Z,Y,rfl,_,_⟩:=X
 have hA:DataW.TrodAll enc prog W 0 (fun _=>true) true Tryz.f5.params.toList args.toList ds p:=Z
 rw[params5]at hA B
 obtain⟨v0,au,d0,az,U,q0,ak,rfl,rfl,h0,ai⟩:=jS hA
 obtain⟨R,ar,d1,ay,p1,q1,rfl,rfl,rfl,h1,ah⟩:=jS ai
 obtain⟨Q,aq,d2,ax,p2,q2,rfl,rfl,rfl,h2,ag⟩:=jS ah
 obtain⟨v3,ap,d3,aw,p3,q3,rfl,rfl,rfl,h3,af⟩:=jS ag
 obtain⟨v4,ao,d4,av,p4,q4,rfl,rfl,rfl,h4,ae⟩:=jS af
 obtain⟨rfl,rfl,rfl⟩:=trodAll_nil ae
 obtain rfl:args= #[v0,R,Q,v3,v4]:=by cases args;simp_all
 clear ak
 obtain⟨rfl,rfl⟩:=trodVars_none Y
 have am:=h0
 obtain⟨A0,n0,c0,ab,rfl,a0,b0,m0,o0,r0⟩:=q6 (B 0 22 v0 rfl rfl) h0
 obtain⟨L,rfl,rfl,rfl,M⟩:=open_int fc (B 1 5 R rfl rfl) h1
 obtain⟨I,rfl,rfl,rfl,w2⟩:=open_string ew (B 2 9 Q rfl rfl) h2
 obtain⟨G,rfl,rfl,rfl,w3⟩:=open_string ew (B 3 9 v3 rfl rfl) h3
 obtain⟨E,rfl,rfl,rfl,w4⟩:=open_string ew (B 4 9 v4 rfl rfl) h4
 clear Z Y V
 simp only[fM]at N
 have aj: ∀x∈U,x.block<W.heap.size:=fun x hx=>N.lt x (by simp[hx])
 refine(so ab A0 n0 c0 L I G E W (FI M).1 (FI M).2 a0 m0 b0 o0 r0 (zw hL ad)).mono ?_
 rintro e W' ⟨rfl,bel⟩
 have O:((OpenSpec.ofChange Rows.jwsHeadsSpec).at F).fn H ([d0,.lit (.int .u8 L),.lit (.string I.data.toList),.lit (.string G.data.toList),.lit (.string E.data.toList)]++[])={results:=[.lit (.bool true)],args:=[d0,.lit (.int .u8 L),.lit (.string I.data.toList),.lit (.string G.data.toList),.lit (.string E.data.toList)]}:=rfl
 refine⟨_,rfl,_,_,_,[],(U++([]++([]++([]++([]))))),[],N,?_,?_,?_,bel.frame _,fun h=>by cases h⟩
 ·rw[O];exact trodAll_mk1 (shut_bool fV _)
 ·rw[O];exact(⟨_,_,(Below.trod qk (by kernel_rfl) (fG (by kernel_rfl)) am bel aj),⟨_,_,(shut_int fc M),⟨_,_,(shut_string ew w2),⟨_,_,(shut_string ew w3),trodAll_mk1 (shut_string ew w4),rfl⟩,rfl⟩,rfl⟩,rfl⟩)
 ·rw[O];rfl
theorem NF:Rows.JwsHeadsSaid:=
 OpenClaim.holds_of_cond 5 Tryz.f5 rfl rfl rfl rfl rfl rfl rfl ⟨rfl,rfl,rfl,rfl,rfl⟩ rfl rfl rfl rfl rfl (by kernel_rfl) func5 N4
  (fG (by kernel_rfl)) (by unfold Func.isWrapper;rw[dN (jX (by kernel_rfl))];exact⟨rfl,rfl⟩)
  (fun B q H enc _ D=>by rw[OpenClaim.pre_eq_preRow];exact N9 B q H enc D)
theorem jwsHeads_card:Rows.JwsHeadsCardSaid:=
 Claim7.holds_tied_plain_at .later [] [.data,.data,.data,.handle,.data,.pinned] true (true, "e7985848cb6f30b6d4f7bbcd454f29335594b1fda69663c15b573e5eaaa62ed7") true
  NF (fun _ h=>by cases h) (by kernel_rfl) (fun _ h=>by cases h) jwsHeads_row_tie rfl ⟨rfl,rfl⟩ (by kernel_rfl) rfl
  (fun f G E D=>by
   obtain rfl:f=5:=gd ((show prog.funcNamed "warrant/warrantlaw08.JwsHeads" =some 5 by kernel_rfl).symm.trans E)|>.symm
   obtain rfl:G=Tryz.f5:=(gd (func5.symm.trans D)).symm
   exact⟨by kernel_rfl,fun j t q=>by
    rw[params5]at q
    have B:t∈[22,5,9]:=by
     have:=Array.mem_of_getElem? q
     simpa using this
    have F:([22,5,9].all fun u=> !prog.wantsStandIn u)=true:=by kernel_rfl
    exact(show prog.wantsStandIn t=false by simpa using kr.1 F t B)⟩)
  (by kernel_rfl)
end Go.Proofs.YtceddodfddlncaaGreatDoor
