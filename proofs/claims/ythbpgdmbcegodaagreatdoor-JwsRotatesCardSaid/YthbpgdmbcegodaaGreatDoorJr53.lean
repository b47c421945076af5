
import Derived.Test.YthbpgdmbcegodaaGreatDoorTie
import Derived.SevenTiedAt
import Derived.Test.YthbpgdmbcegodaaGreatDoorCards
import Derived.Test.YthbpgdmbcegodaaGreatDoorJr46
import Derived.Test.YthbpgdmbcegodaaGreatDoorJr48
import Derived.Test.YthbpgdmbcegodaaGreatDoorJr51
import Derived.Test.YthbpgdmbcegodaaGreatDoorJr52
set_option maxRecDepth 100000
set_option maxHeartbeats 16000000
set_option linter.all false
namespace Go.Proofs.YthbpgdmbcegodaaGreatDoor
open Go Go.RowKit
open Go.ChangeShapes Go.WideShapes Go.ChangeAt
open Go.ChangeMaps (open_string shut_string)
theorem laidOutA:laidOutB Tryz.prog=true:=by kernel_rfl
theorem zhZ (os:Os) {H:Type} (enc:TypeId×Value→H):
  (OpenSpec.ofChange Rows.jwsRotatesSpec).preRow enc Tryz.prog Tryz.f7 Rows.jwsRotatesRow.domain false Rows.jwsRotatesRow.laid ((zdq os).forCall (fun _ _=>0) ⟨#[],#[.slice none 0 0,.agg #[.string ⟨#[]⟩,.string ⟨#[]⟩]],[]⟩).memory #[.slice none 0 0,.agg #[.string ⟨#[]⟩,.string ⟨#[]⟩]]:=by
 have hw:(DataW.whole enc Tryz.prog ((zdq os).forCall (fun _ _=>0) ⟨#[],#[.slice none 0 0,.agg #[.string ⟨#[]⟩,.string ⟨#[]⟩]],[]⟩).memory Tryz.f7.params.toList (OpenSpec.ofChange Rows.jwsRotatesSpec).vars false #[Value.slice none 0 0,Value.agg #[.string ⟨#[]⟩,.string ⟨#[]⟩]].toList 8).map (fun x=>(x.1,x.2.1))=
   some ([.nil,.agg [.lit (.string []),.lit (.string [])]],[]):=by kernel_rfl
 obtain⟨⟨x1,x2,x3⟩,hx,hx1⟩:=Option.map_eq_some_iff.1 hw
 simp only[Prod.mk.injEq]at hx1
 obtain⟨rfl,rfl⟩:=hx1
 exact OpenSpec.preRow_of_cond 8 hx (by kernel_rfl) (fun k hk=>by cases hk) (by kernel_rfl) (zkt _ _)
theorem zhp (os:Os) (started:os.Started) (H:Type) (enc:TypeId×Value→H) (F:Stop.Interp):
  ReturnsInHanded {} Tryz.checked os 7 .any ((OpenSpec.ofChange Rows.jwsRotatesSpec).preRow enc Tryz.prog Tryz.f7 Rows.jwsRotatesRow.domain false Rows.jwsRotatesRow.laid)
   (((OpenSpec.ofChange Rows.jwsRotatesSpec).at F).post enc Tryz.prog Tryz.f7 false true false false):=by
 refine returnsInHanded_of_row (C:=Tryz.checked) (s:=OpenSpec.ofChange Rows.jwsRotatesSpec) ownKnobs started (by kernel_rfl) Tryz.func7
  (witness_row_at (enc:=enc) (C:=Tryz.checked) false (zdq os) #[.slice none 0 0,.agg #[.string ⟨#[]⟩,.string ⟨#[]⟩]] (znc _) (by kernel_rfl) (by kernel_rfl) (by kernel_rfl) (zhZ os enc)) ?_
 intro W base args ds gs before hval0 hW _ _ _ hL hsh _
 have hval: ∀(j:Nat) t v,Tryz.f7.params[j]? =some t→args[j]? =some v→Value.okWide Tryz.prog W .any base t v:=hval0
 have hW':=hW
 obtain⟨p,q,hA0,hV0,rfl,_,_⟩:=hW
 have hA:DataW.TrodAll enc Tryz.prog W 0 (fun _=>true) true Tryz.f7.params.toList args.toList ds p:=hA0
 rw[Tryz.params7]at hA hval
 obtain⟨v0,v1,d0,d1,p0,p1,rfl,rfl,rfl,h0,h1⟩:=trodAll_two hA
 obtain⟨rfl,rfl⟩:=trodVars_none hV0
 have h0k:=h0
 obtain⟨A0,n0,c0,ks0,rfl,a0,b0,m0,o0,r0⟩:=open_keys (hval 0 41 v0 rfl rfl) h0
 have h1k:=h1
 obtain⟨q1,s1,rfl⟩:=open_key (hval 1 59 v1 rfl rfl) h1
 clear hA0 hV0 hval0
 simp only[List.append_nil]at hW'
 have hlt0: ∀x∈p0,x.block<W.heap.size:=fun x hx=>hW'.lt x (by simp[hx])
 have hlt1: ∀x∈p1,x.block<W.heap.size:=fun x hx=>hW'.lt x (by simp[hx])
 refine(zku ks0 A0 n0 c0 q1 s1 W a0 m0 b0 o0 r0 (ask8_of hL hsh)).mono ?_
 rintro e W' ⟨rfl,bel⟩
 have e1:((OpenSpec.ofChange Rows.jwsRotatesSpec).at F).fn H ([d0,d1]++[])={results:=[.lit (.bool true)],args:=[d0,d1]}:=rfl
 refine⟨_,rfl,_,_,_,[],(p0++p1),[],hW',?_,?_,?_,bel.frame _,fun h=>by cases h⟩
 ·rw[e1];exact trodAll_mk1 (shut_bool Tryz.underlying4 _)
 ·rw[e1];exact trodAll_mk2 (Below.trod laidOutA (by kernel_rfl) (of_decide_eq_true (by kernel_rfl)) h0k bel hlt0) (Below.trod laidOutA (by kernel_rfl) (of_decide_eq_true (by kernel_rfl)) h1k bel hlt1)
 ·rw[e1];rfl
theorem zkZ:Rows.JwsRotatesSaid:=
 OpenClaim.holds_of_cond 7 Tryz.f7 rfl rfl rfl rfl rfl rfl rfl ⟨rfl,rfl,rfl,rfl,rfl⟩ rfl rfl rfl rfl rfl (by kernel_rfl) Tryz.func7 zih
  (of_decide_eq_true (by kernel_rfl)) (by unfold Func.isWrapper;rw[if_neg (of_decide_eq_false (by kernel_rfl))];exact⟨rfl,rfl⟩)
  (fun os started H enc _ F0=>by rw[OpenClaim.pre_eq_preRow];exact zhp os started H enc F0)
theorem jwsRotates_card:Rows.JwsRotatesCardSaid:=
 Claim7.holds_tied_plain_at .later [] [.data,.data,.data,.handle,.data,.pinned] true (true, "c468a4ff578f76db028b04b4908b5b7938208a6898c841a81a7cd9c5f766a816") true
  zkZ (fun _ h=>by cases h) (by kernel_rfl) (fun _ h=>by cases h) jwsRotates_row_tie rfl ⟨rfl,rfl⟩ (by kernel_rfl) rfl
  (fun f fn hf hfn=>by
   obtain rfl:f=7:=Option.some.inj ((show Tryz.prog.funcNamed "warrant/warrantlaw08.JwsRotates" =some 7 by kernel_rfl).symm.trans hf)|>.symm
   obtain rfl:fn=Tryz.f7:=(Option.some.inj (Tryz.func7.symm.trans hfn)).symm
   exact⟨by kernel_rfl,fun j t ht=>by
    rw[Tryz.params7]at ht
    have hm:t∈[41,59]:=by
     have:=Array.mem_of_getElem? ht
     simpa using this
    have hall:([41,59].all fun u=> !Tryz.prog.wantsStandIn u)=true:=by kernel_rfl
    exact(show Tryz.prog.wantsStandIn t=false by simpa using List.all_eq_true.1 hall t hm)⟩)
  (by kernel_rfl)
end Go.Proofs.YthbpgdmbcegodaaGreatDoor
