
import Derived.Test.YtjfgmgkhinehaaaGreatDoorTie
import Derived.Test.YtjfgmgkhinehaaaGreatDoorCards
import Derived.SevenTiedAt
import Derived.Test.YtjfgmgkhinehaaaGreatDoorCq33
import Derived.Test.YtjfgmgkhinehaaaGreatDoorCq45
import Derived.Test.YtjfgmgkhinehaaaGreatDoorCq46
set_option maxRecDepth 100000
set_option maxHeartbeats 16000000
set_option linter.all false
namespace Go.Proofs.YtjfgmgkhinehaaaGreatDoor
open Go Go.RowKit
open Go.ChangeShapes Go.WideShapes Go.ChangeAt
open Go.ChangeMaps (open_string shut_string)
theorem laidOutA:laidOutB Tryz.prog=true:=by kernel_rfl
theorem zhZ (os:Os) {H:Type} (enc:TypeId×Value→H):
  (OpenSpec.ofChange Rows.claimPrintsSpec).preRow enc Tryz.prog Tryz.f4 Rows.claimPrintsRow.domain false Rows.claimPrintsRow.laid ((zcg os).forCall (fun _ _=>0) ⟨#[],#[.agg #[.string ⟨#[]⟩,.string ⟨#[]⟩,.string ⟨#[]⟩,.string ⟨#[]⟩,.slice none 0 0,.int .i64 0,.int .i64 0]],[]⟩).memory #[.agg #[.string ⟨#[]⟩,.string ⟨#[]⟩,.string ⟨#[]⟩,.string ⟨#[]⟩,.slice none 0 0,.int .i64 0,.int .i64 0]]:=by
 have hw:(DataW.whole enc Tryz.prog ((zcg os).forCall (fun _ _=>0) ⟨#[],#[.agg #[.string ⟨#[]⟩,.string ⟨#[]⟩,.string ⟨#[]⟩,.string ⟨#[]⟩,.slice none 0 0,.int .i64 0,.int .i64 0]],[]⟩).memory Tryz.f4.params.toList (OpenSpec.ofChange Rows.claimPrintsSpec).vars false #[Value.agg #[.string ⟨#[]⟩,.string ⟨#[]⟩,.string ⟨#[]⟩,.string ⟨#[]⟩,.slice none 0 0,.int .i64 0,.int .i64 0]].toList 8).map (fun x=>(x.1,x.2.1))=
   some ([.agg [.lit (.string []),.lit (.string []),.lit (.string []),.lit (.string []),.nil,.lit (.int .i64 0),.lit (.int .i64 0)]],[]):=by kernel_rfl
 obtain⟨⟨x1,x2,x3⟩,hx,hx1⟩:=Option.map_eq_some_iff.1 hw
 simp only[Prod.mk.injEq]at hx1
 obtain⟨rfl,rfl⟩:=hx1
 exact OpenSpec.preRow_of_cond 8 hx (by kernel_rfl) (fun k hk=>by cases hk) (by kernel_rfl) (zge _ _)
theorem zhz (os:Os) (started:os.Started) (H:Type) (enc:TypeId×Value→H) (F:Stop.Interp):
  ReturnsInHanded {} Tryz.checked os 4 .any ((OpenSpec.ofChange Rows.claimPrintsSpec).preRow enc Tryz.prog Tryz.f4 Rows.claimPrintsRow.domain false Rows.claimPrintsRow.laid)
   (((OpenSpec.ofChange Rows.claimPrintsSpec).at F).post enc Tryz.prog Tryz.f4 false true false false):=by
 refine returnsInHanded_of_row (C:=Tryz.checked) (s:=OpenSpec.ofChange Rows.claimPrintsSpec) ownKnobs started (by kernel_rfl) Tryz.func4
  (witness_row_at (enc:=enc) (C:=Tryz.checked) false (zcg os) #[.agg #[.string ⟨#[]⟩,.string ⟨#[]⟩,.string ⟨#[]⟩,.string ⟨#[]⟩,.slice none 0 0,.int .i64 0,.int .i64 0]] (zhs _) (by kernel_rfl) (by kernel_rfl) (by kernel_rfl) (zhZ os enc)) ?_
 intro W base args ds gs before hval0 hW _ _ _ hL hsh _
 have hval: ∀(j:Nat) t v,Tryz.f4.params[j]? =some t→args[j]? =some v→Value.okWide Tryz.prog W .any base t v:=hval0
 have hW':=hW
 obtain⟨p,q,hA0,hV0,rfl,_,_⟩:=hW
 have hA:DataW.TrodAll enc Tryz.prog W 0 (fun _=>true) true Tryz.f4.params.toList args.toList ds p:=hA0
 rw[Tryz.params4]at hA hval
 obtain⟨v0,d0,rfl,rfl,h0⟩:=trodAll_one hA
 obtain⟨rfl,rfl⟩:=trodVars_none hV0
 obtain⟨t0,A0,c0,rfl,r0⟩:=open_tok (hval 0 42 v0 rfl rfl) h0
 clear hA0 hV0 hval0
 simp only[List.append_nil]at hW'
 have hlt0: ∀x∈p,x.block<W.heap.size:=fun x hx=>hW'.lt x (by simp[hx])
 refine(zlY t0 A0 c0 W (ask9_of hL hsh) r0).mono ?_
 rintro e W' ⟨rfl,bel⟩
 have e1:((OpenSpec.ofChange Rows.claimPrintsSpec).at F).fn H ([d0]++[])={results:=[.lit (.bool true)],args:=[d0]}:=rfl
 refine⟨_,rfl,_,_,_,[],(p),[],hW',?_,?_,?_,bel.frame _,fun h=>by cases h⟩
 ·rw[e1];exact trodAll_mk1 (shut_bool Tryz.underlying4 _)
 ·rw[e1];exact trodAll_mk1 (Below.trod laidOutA (by kernel_rfl) (of_decide_eq_true (by kernel_rfl)) h0 bel hlt0)
 ·rw[e1];rfl
theorem ziz:Rows.ClaimPrintsSaid:=
 OpenClaim.holds_of_cond 4 Tryz.f4 rfl rfl rfl rfl rfl rfl rfl ⟨rfl,rfl,rfl,rfl,rfl⟩ rfl rfl rfl rfl rfl (by kernel_rfl) Tryz.func4 (by kernel_rfl)
  (of_decide_eq_true (by kernel_rfl)) (by unfold Func.isWrapper;rw[if_neg (of_decide_eq_false (by kernel_rfl))];exact⟨rfl,rfl⟩)
  (fun os started H enc _ F0=>by rw[OpenClaim.pre_eq_preRow];exact zhz os started H enc F0)
theorem claimPrints_card:Rows.ClaimPrintsCardSaid:=
 Claim7.holds_tied_plain_at .later [] [.handle,.data] true (true, "85f5bd0213bd62a7566f631b9002d18a805f0be3ad3be6068e78d71207097417") true
  ziz (fun _ h=>by cases h) (by kernel_rfl) (fun _ h=>by cases h) claimPrints_row_tie rfl ⟨rfl,rfl⟩ (by kernel_rfl) rfl
  (fun f fn hf hfn=>by
   obtain rfl:f=4:=Option.some.inj ((show Tryz.prog.funcNamed "warrant/warrantlaw09.ClaimPrints" =some 4 by kernel_rfl).symm.trans hf)|>.symm
   obtain rfl:fn=Tryz.f4:=(Option.some.inj (Tryz.func4.symm.trans hfn)).symm
   exact⟨by kernel_rfl,fun j t ht=>by
    rw[Tryz.params4]at ht
    have hm:t∈[42]:=by
     have:=Array.mem_of_getElem? ht
     simpa using this
    have hall:([42].all fun u=> !Tryz.prog.wantsStandIn u)=true:=by kernel_rfl
    exact(show Tryz.prog.wantsStandIn t=false by simpa using List.all_eq_true.1 hall t hm)⟩)
  (by kernel_rfl)
end Go.Proofs.YtjfgmgkhinehaaaGreatDoor
