
import Derived.Test.YtlcljphbldjieaaGreatDoorTie
import Derived.SevenTiedAt
import Derived.Test.YtlcljphbldjieaaGreatDoorCards
import Derived.Test.YtlcljphbldjieaaGreatDoorJw45
import Derived.Test.YtlcljphbldjieaaGreatDoorJw46
import Derived.Test.YtlcljphbldjieaaGreatDoorJw49
import Derived.Test.YtlcljphbldjieaaGreatDoorJw50
set_option maxRecDepth 100000
set_option maxHeartbeats 16000000
set_option linter.all false
namespace Go.Proofs.YtlcljphbldjieaaGreatDoor
open Go Go.RowKit
open Go.ChangeShapes Go.WideShapes Go.ChangeAt
open Go.ChangeMaps (open_string shut_string)
theorem laidOutA:laidOutB Tryz.prog=true:=by kernel_rfl
theorem ziY (os:Os) {H:Type} (enc:TypeId×Value→H):
  (OpenSpec.ofChange Rows.jwsSignsSpec).preRow enc Tryz.prog Tryz.f10 Rows.jwsSignsRow.domain false Rows.jwsSignsRow.laid ((zdo os).forCall (fun _ _=>0) ⟨#[],#[.slice none 0 0,.string ⟨#[]⟩,.string ⟨#[]⟩],[]⟩).memory #[.slice none 0 0,.string ⟨#[]⟩,.string ⟨#[]⟩]:=by
 have hw:(DataW.whole enc Tryz.prog ((zdo os).forCall (fun _ _=>0) ⟨#[],#[.slice none 0 0,.string ⟨#[]⟩,.string ⟨#[]⟩],[]⟩).memory Tryz.f10.params.toList (OpenSpec.ofChange Rows.jwsSignsSpec).vars false #[Value.slice none 0 0,Value.string ⟨#[]⟩,Value.string ⟨#[]⟩].toList 8).map (fun x=>(x.1,x.2.1))=
   some ([.nil,.lit (.string []),.lit (.string [])],[]):=by kernel_rfl
 obtain⟨⟨x1,x2,x3⟩,hx,hx1⟩:=Option.map_eq_some_iff.1 hw
 simp only[Prod.mk.injEq]at hx1
 obtain⟨rfl,rfl⟩:=hx1
 exact OpenSpec.preRow_of_cond 8 hx (by kernel_rfl) (fun k hk=>by cases hk) (by kernel_rfl) (zkr _ _)
theorem zkQ (os:Os) (started:os.Started) (H:Type) (enc:TypeId×Value→H) (F:Stop.Interp):
  ReturnsInHanded {} Tryz.checked os 10 .any ((OpenSpec.ofChange Rows.jwsSignsSpec).preRow enc Tryz.prog Tryz.f10 Rows.jwsSignsRow.domain false Rows.jwsSignsRow.laid)
   (((OpenSpec.ofChange Rows.jwsSignsSpec).at F).post enc Tryz.prog Tryz.f10 false true false false):=by
 refine returnsInHanded_of_row (C:=Tryz.checked) (s:=OpenSpec.ofChange Rows.jwsSignsSpec) ownKnobs started (by kernel_rfl) Tryz.func10
  (witness_row_at (enc:=enc) (C:=Tryz.checked) false (zdo os) #[.slice none 0 0,.string ⟨#[]⟩,.string ⟨#[]⟩] (znY _) (by kernel_rfl) (by kernel_rfl) (by kernel_rfl) (ziY os enc)) ?_
 intro W base args ds gs before hval0 hW _ _ _ hL hsh _
 have hval: ∀(j:Nat) t v,Tryz.f10.params[j]? =some t→args[j]? =some v→Value.okWide Tryz.prog W .any base t v:=hval0
 have hW':=hW
 obtain⟨p,q,hA0,hV0,rfl,_,_⟩:=hW
 have hA:DataW.TrodAll enc Tryz.prog W 0 (fun _=>true) true Tryz.f10.params.toList args.toList ds p:=hA0
 rw[Tryz.params10]at hA hval
 obtain⟨v0,v1,v2,d0,d1,d2,p0,p1,p2,rfl,rfl,rfl,h0,h1,h2⟩:=trodAll_three hA
 obtain⟨rfl,rfl⟩:=trodVars_none hV0
 have h0k:=h0
 obtain⟨A0,n0,c0,ks0,rfl,a0,b0,m0,o0,r0⟩:=open_keys (hval 0 58 v0 rfl rfl) h0
 obtain⟨x1,rfl,rfl,rfl,w1⟩:=open_string Tryz.underlying9 (hval 1 9 v1 rfl rfl) h1
 obtain⟨x2,rfl,rfl,rfl,w2⟩:=open_string Tryz.underlying9 (hval 2 9 v2 rfl rfl) h2
 clear hA0 hV0 hval0
 simp only[List.append_nil]at hW'
 have hlt0: ∀x∈p0,x.block<W.heap.size:=fun x hx=>hW'.lt x (by simp[hx])
 refine(jwsSigns_any ks0 A0 n0 c0 x1 x2 W a0 m0 b0 o0 r0 (ask8_of hL hsh)).mono ?_
 rintro e W' ⟨rfl,bel⟩
 have e1:((OpenSpec.ofChange Rows.jwsSignsSpec).at F).fn H ([d0,.lit (.string x1.data.toList),.lit (.string x2.data.toList)]++[])={results:=[.lit (.bool true)],args:=[d0,.lit (.string x1.data.toList),.lit (.string x2.data.toList)]}:=rfl
 refine⟨_,rfl,_,_,_,[],(p0++[]++[]),[],hW',?_,?_,?_,bel.frame _,fun h=>by cases h⟩
 ·rw[e1];exact trodAll_mk1 (shut_bool Tryz.underlying4 _)
 ·rw[e1];simp only[List.append_assoc];exact trodAll_mk3 (Below.trod laidOutA (by kernel_rfl) (of_decide_eq_true (by kernel_rfl)) h0k bel hlt0) (shut_string Tryz.underlying9 w1) (shut_string Tryz.underlying9 w2)
 ·rw[e1];rfl
theorem zna:Rows.JwsSignsSaid:=
 OpenClaim.holds_of_cond 10 Tryz.f10 rfl rfl rfl rfl rfl rfl rfl ⟨rfl,rfl,rfl,rfl,rfl⟩ rfl rfl rfl rfl rfl (by kernel_rfl) Tryz.func10 zks
  (of_decide_eq_true (by kernel_rfl)) (by unfold Func.isWrapper;rw[if_neg (of_decide_eq_false (by kernel_rfl))];exact⟨rfl,rfl⟩)
  (fun os started H enc _ F0=>by rw[OpenClaim.pre_eq_preRow];exact zkQ os started H enc F0)
theorem jwsSigns_card:Rows.JwsSignsCardSaid:=
 Claim7.holds_tied_plain_at .later [] [.data,.data,.data,.handle,.data,.pinned] true (true, "c2482a8f96fadebd371f67262e3144d295c6410f44531907e324312f33857b8c") true
  zna (fun _ h=>by cases h) (by kernel_rfl) (fun _ h=>by cases h) jwsSigns_row_tie rfl ⟨rfl,rfl⟩ (by kernel_rfl) rfl
  (fun f fn hf hfn=>by
   obtain rfl:f=10:=Option.some.inj ((show Tryz.prog.funcNamed "warrant/warrantlaw08.JwsSigns" =some 10 by kernel_rfl).symm.trans hf)|>.symm
   obtain rfl:fn=Tryz.f10:=(Option.some.inj (Tryz.func10.symm.trans hfn)).symm
   exact⟨by kernel_rfl,fun j t ht=>by
    rw[Tryz.params10]at ht
    have hm:t∈[58,9]:=by
     have:=Array.mem_of_getElem? ht
     simpa using this
    have hall:([58,9].all fun u=> !Tryz.prog.wantsStandIn u)=true:=by kernel_rfl
    exact(show Tryz.prog.wantsStandIn t=false by simpa using List.all_eq_true.1 hall t hm)⟩)
  (by kernel_rfl)
end Go.Proofs.YtlcljphbldjieaaGreatDoor
