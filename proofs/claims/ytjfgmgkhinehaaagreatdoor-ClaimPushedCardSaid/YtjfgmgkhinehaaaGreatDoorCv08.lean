
import Derived.Deep.Slices
import Derived.Deep.Fields
import Derived.ChangeSame
import Derived.Carry
import Derived.Test.YtjfgmgkhinehaaaGreatDoorTie
import Derived.Test.YtjfgmgkhinehaaaGreatDoorCards
import Derived.SevenTiedAt
import Derived.Test.YtjfgmgkhinehaaaGreatDoorCq03
import Derived.Test.YtjfgmgkhinehaaaGreatDoorCq05
import Derived.Test.YtjfgmgkhinehaaaGreatDoorCq33
import Derived.Test.YtjfgmgkhinehaaaGreatDoorCv07
set_option maxRecDepth 100000
set_option maxHeartbeats 16000000
set_option linter.all false
namespace Go.Proofs.YtjfgmgkhinehaaaGreatDoor
open Go Go.RowKit
open Go.ChangeShapes Go.WideShapes Go.ChangeAt
open Go.ChangeMaps (open_string shut_string)
theorem zom (os:Os) {H:Type} (enc:TypeId×Value→H):
  (OpenSpec.ofChange Rows.claimPushedSpec).preRow enc Tryz.prog Tryz.f6 Rows.claimPushedRow.domain false Rows.claimPushedRow.laid ((zcg os).forCall (fun _ _=>0) ⟨#[],#[.string ⟨#[]⟩,.int .i64 0],[]⟩).memory #[.string ⟨#[]⟩,.int .i64 0]:=by
 have hw:(DataW.whole enc Tryz.prog ((zcg os).forCall (fun _ _=>0) ⟨#[],#[.string ⟨#[]⟩,.int .i64 0],[]⟩).memory Tryz.f6.params.toList (OpenSpec.ofChange Rows.claimPushedSpec).vars false #[Value.string ⟨#[]⟩,Value.int .i64 0].toList 8).map (fun x=>(x.1,x.2.1))=
   some ([.lit (.string []),.lit (.int .i64 0)],[]):=by kernel_rfl
 obtain⟨⟨x1,x2,x3⟩,hx,hx1⟩:=Option.map_eq_some_iff.1 hw
 simp only[Prod.mk.injEq]at hx1
 obtain⟨rfl,rfl⟩:=hx1
 exact OpenSpec.preRow_of_cond 8 hx (by kernel_rfl) (fun k hk=>by cases hk) (by kernel_rfl) (zge _ _)
theorem zon (os:Os) (started:os.Started) (H:Type) (enc:TypeId×Value→H) (F:Stop.Interp):
  ReturnsInHanded {} Tryz.checked os 6 .any ((OpenSpec.ofChange Rows.claimPushedSpec).preRow enc Tryz.prog Tryz.f6 Rows.claimPushedRow.domain false Rows.claimPushedRow.laid)
   (((OpenSpec.ofChange Rows.claimPushedSpec).at F).post enc Tryz.prog Tryz.f6 false true false false):=by
 refine returnsInHanded_of_row (C:=Tryz.checked) (s:=OpenSpec.ofChange Rows.claimPushedSpec) ownKnobs started (by kernel_rfl) Tryz.func6
  (witness_row_at (enc:=enc) (C:=Tryz.checked) false (zcg os) #[.string ⟨#[]⟩,.int .i64 0] (zhs _) (by kernel_rfl) (by kernel_rfl) (by kernel_rfl) (zom os enc)) ?_
 intro W base args ds gs before hval0 hW _ _ _ hL hsh _
 have hval: ∀(j:Nat) t v,Tryz.f6.params[j]? =some t→args[j]? =some v→Value.okWide Tryz.prog W .any base t v:=hval0
 have hW':=hW
 obtain⟨p,q,hA0,hV0,rfl,_,_⟩:=hW
 have hA:DataW.TrodAll enc Tryz.prog W 0 (fun _=>true) true Tryz.f6.params.toList args.toList ds p:=hA0
 rw[Tryz.params6]at hA hval
 obtain⟨v0,v1,d0,d1,p0,p1,rfl,rfl,rfl,h0,h1⟩:=trodAll_two hA
 obtain⟨rfl,rfl⟩:=trodVars_none hV0
 obtain⟨x0,rfl,rfl,rfl,w0⟩:=open_string Tryz.underlying9 (hval 0 9 v0 rfl rfl) h0
 obtain⟨x1,rfl,rfl,rfl,w1⟩:=open_int Tryz.underlying2 (hval 1 2 v1 rfl rfl) h1
 clear hA0 hV0 hval0
 simp only[List.append_nil]at hW'
 refine(zpX x0 x1 W (ask9_of hL hsh)).mono ?_
 rintro e W' ⟨rfl,bel⟩
 have e1:((OpenSpec.ofChange Rows.claimPushedSpec).at F).fn H ([.lit (.string x0.data.toList),.lit (.int .i64 x1)]++[])={results:=[.lit (.bool true)],args:=[.lit (.string x0.data.toList),.lit (.int .i64 x1)]}:=rfl
 refine⟨_,rfl,_,_,_,[],[],[],hW',?_,?_,?_,bel.frame _,fun h=>by cases h⟩
 ·rw[e1];exact trodAll_mk1 (shut_bool Tryz.underlying4 _)
 ·rw[e1];exact trodAll_mk2 (shut_string Tryz.underlying9 w0) (shut_int Tryz.underlying2 w1)
 ·rw[e1];rfl
theorem zor:Rows.ClaimPushedSaid:=
 OpenClaim.holds_of_cond 6 Tryz.f6 rfl rfl rfl rfl rfl rfl rfl ⟨rfl,rfl,rfl,rfl,rfl⟩ rfl rfl rfl rfl rfl (by kernel_rfl) Tryz.func6 (by kernel_rfl)
  (of_decide_eq_true (by kernel_rfl)) (by unfold Func.isWrapper;rw[if_neg (of_decide_eq_false (by kernel_rfl))];exact⟨rfl,rfl⟩)
  (fun os started H enc _ F0=>by rw[OpenClaim.pre_eq_preRow];exact zon os started H enc F0)
theorem claimPushed_card:Rows.ClaimPushedCardSaid:=
 Claim7.holds_tied_plain_at .later [] [.handle,.data] true (true, "85f5bd0213bd62a7566f631b9002d18a805f0be3ad3be6068e78d71207097417") true
  zor (fun _ h=>by cases h) (by kernel_rfl) (fun _ h=>by cases h) claimPushed_row_tie rfl ⟨rfl,rfl⟩ (by kernel_rfl) rfl
  (fun f fn hf hfn=>by
   obtain rfl:f=6:=Option.some.inj ((show Tryz.prog.funcNamed "warrant/warrantlaw09.ClaimPushed" =some 6 by kernel_rfl).symm.trans hf)|>.symm
   obtain rfl:fn=Tryz.f6:=(Option.some.inj (Tryz.func6.symm.trans hfn)).symm
   exact⟨by kernel_rfl,fun j t ht=>by
    rw[Tryz.params6]at ht
    have hm:t∈[9,2]:=by
     have:=Array.mem_of_getElem? ht
     simpa using this
    have hall:([9,2].all fun u=> !Tryz.prog.wantsStandIn u)=true:=by kernel_rfl
    exact(show Tryz.prog.wantsStandIn t=false by simpa using List.all_eq_true.1 hall t hm)⟩)
  (by kernel_rfl)
end Go.Proofs.YtjfgmgkhinehaaaGreatDoor
