/- Proved: for every two lists of keys, all kinds and payloads the law JwsBack returns true: what is signed is verified as long as the ring has the key, not as another kind, not with one sign of the tag turned. The conditions: six package variables (sha's start and roots, errors' errorType, utf's firstMarks, unicode/utf8's first and acceptRanges) hold at the call what the program's text lays (tied by the card). -/
import Derived.Test.YtceddodfddlncaaGreatDoorTie
import Derived.SevenTiedAt
import Derived.Test.YtceddodfddlncaaGreatDoorCards
import Derived.Test.YtceddodfddlncaaGreatDoorJb44
import Derived.Test.YtceddodfddlncaaGreatDoorJb45
import Derived.Test.YtceddodfddlncaaGreatDoorJb50
import Derived.Test.YtceddodfddlncaaGreatDoorJb51
set_option maxRecDepth 100000
set_option maxHeartbeats 16000000
set_option linter.all false
namespace Go.Proofs.YtceddodfddlncaaGreatDoor
open Go Go.RowKit
open Go.ChangeShapes Go.WideShapes Go.ChangeAt
open Go.ChangeMaps (open_string shut_string)
theorem u8_bd {n:Int} (h:(Lit.int .u8 n).wf=true):0≤n∧n≤255:=by
 unfold Lit.wf at h
 rw[Bool.and_eq_true]at h
 have h1:IntKind.u8.min≤n:=of_decide_eq_true h.1
 have h2:n≤IntKind.u8.max:=of_decide_eq_true h.2
 exact⟨h1,h2⟩
theorem u16_bd {n:Int} (h:(Lit.int .u16 n).wf=true):0≤n∧n≤65535:=by
 unfold Lit.wf at h
 rw[Bool.and_eq_true]at h
 have h1:IntKind.u16.min≤n:=of_decide_eq_true h.1
 have h2:n≤IntKind.u16.max:=of_decide_eq_true h.2
 exact⟨h1,h2⟩
theorem laidOutA:laidOutB Tryz.prog=true:=by kernel_rfl
theorem zkJ (os:Os) {H:Type} (enc:TypeId×Value→H):
  (OpenSpec.ofChange Rows.jwsBackSpec).preRow enc Tryz.prog Tryz.f6 Rows.jwsBackRow.domain false Rows.jwsBackRow.laid ((zdt os).forCall (fun _ _=>0) ⟨#[],#[.slice none 0 0,.slice none 0 0,.string ⟨#[]⟩,.string ⟨#[]⟩,.string ⟨#[]⟩,.int .u16 0,.int .u8 0],[]⟩).memory #[.slice none 0 0,.slice none 0 0,.string ⟨#[]⟩,.string ⟨#[]⟩,.string ⟨#[]⟩,.int .u16 0,.int .u8 0]:=by
 have hw:(DataW.whole enc Tryz.prog ((zdt os).forCall (fun _ _=>0) ⟨#[],#[.slice none 0 0,.slice none 0 0,.string ⟨#[]⟩,.string ⟨#[]⟩,.string ⟨#[]⟩,.int .u16 0,.int .u8 0],[]⟩).memory Tryz.f6.params.toList (OpenSpec.ofChange Rows.jwsBackSpec).vars false #[Value.slice none 0 0,Value.slice none 0 0,Value.string ⟨#[]⟩,Value.string ⟨#[]⟩,Value.string ⟨#[]⟩,Value.int .u16 0,Value.int .u8 0].toList 8).map (fun x=>(x.1,x.2.1))=
   some ([.nil,.nil,.lit (.string []),.lit (.string []),.lit (.string []),.lit (.int .u16 0),.lit (.int .u8 0)],[]):=by kernel_rfl
 obtain⟨⟨x1,x2,x3⟩,hx,hx1⟩:=Option.map_eq_some_iff.1 hw
 simp only[Prod.mk.injEq]at hx1
 obtain⟨rfl,rfl⟩:=hx1
 exact OpenSpec.preRow_of_cond 8 hx (by kernel_rfl) (fun k hk=>by cases hk) (by kernel_rfl) (zkt _ _)
theorem zku (os:Os) (started:os.Started) (H:Type) (enc:TypeId×Value→H) (F:Stop.Interp):
  ReturnsInHanded {} Tryz.checked os 6 .any ((OpenSpec.ofChange Rows.jwsBackSpec).preRow enc Tryz.prog Tryz.f6 Rows.jwsBackRow.domain false Rows.jwsBackRow.laid)
   (((OpenSpec.ofChange Rows.jwsBackSpec).at F).post enc Tryz.prog Tryz.f6 false true false false):=by
 refine returnsInHanded_of_row (C:=Tryz.checked) (s:=OpenSpec.ofChange Rows.jwsBackSpec) ownKnobs started (by kernel_rfl) Tryz.func6
  (witness_row_at (enc:=enc) (C:=Tryz.checked) false (zdt os) #[.slice none 0 0,.slice none 0 0,.string ⟨#[]⟩,.string ⟨#[]⟩,.string ⟨#[]⟩,.int .u16 0,.int .u8 0] (znd _) (by kernel_rfl) (by kernel_rfl) (by kernel_rfl) (zkJ os enc)) ?_
 intro W base args ds gs before hval0 hW _ _ _ hL hsh _
 have hval: ∀(j:Nat) t v,Tryz.f6.params[j]? =some t→args[j]? =some v→Value.okWide Tryz.prog W .any base t v:=hval0
 have hW':=hW
 obtain⟨p,q,hA0,hV0,rfl,_,_⟩:=hW
 have hA:DataW.TrodAll enc Tryz.prog W 0 (fun _=>true) true Tryz.f6.params.toList args.toList ds p:=hA0
 rw[Tryz.params6]at hA hval
 obtain⟨v0,vs0,d0,ds0,p0,q0,hargs,rfl,rfl,h0,hr0⟩:=trodAll_cons hA
 obtain⟨v1,vs1,d1,ds1,p1,q1,rfl,rfl,rfl,h1,hr1⟩:=trodAll_cons hr0
 obtain⟨v2,vs2,d2,ds2,p2,q2,rfl,rfl,rfl,h2,hr2⟩:=trodAll_cons hr1
 obtain⟨v3,vs3,d3,ds3,p3,q3,rfl,rfl,rfl,h3,hr3⟩:=trodAll_cons hr2
 obtain⟨v4,vs4,d4,ds4,p4,q4,rfl,rfl,rfl,h4,hr4⟩:=trodAll_cons hr3
 obtain⟨v5,vs5,d5,ds5,p5,q5,rfl,rfl,rfl,h5,hr5⟩:=trodAll_cons hr4
 obtain⟨v6,vs6,d6,ds6,p6,q6,rfl,rfl,rfl,h6,hr6⟩:=trodAll_cons hr5
 obtain⟨rfl,rfl,rfl⟩:=trodAll_nil hr6
 obtain rfl:args= #[v0,v1,v2,v3,v4,v5,v6]:=by cases args;simp_all
 clear hargs
 obtain⟨rfl,rfl⟩:=trodVars_none hV0
 have h0k:=h0
 obtain⟨A0,n0,c0,ks0,rfl,a0,b0,m0,o0,r0⟩:=open_keys (hval 0 22 v0 rfl rfl) h0
 have h1k:=h1
 obtain⟨A1,n1,c1,ks1,rfl,a1,b1,m1,o1,r1⟩:=open_keys (hval 1 22 v1 rfl rfl) h1
 obtain⟨x2,rfl,rfl,rfl,w2⟩:=open_string Tryz.underlying9 (hval 2 9 v2 rfl rfl) h2
 obtain⟨x3,rfl,rfl,rfl,w3⟩:=open_string Tryz.underlying9 (hval 3 9 v3 rfl rfl) h3
 obtain⟨x4,rfl,rfl,rfl,w4⟩:=open_string Tryz.underlying9 (hval 4 9 v4 rfl rfl) h4
 obtain⟨x5,rfl,rfl,rfl,w5⟩:=open_int Tryz.underlying43 (hval 5 43 v5 rfl rfl) h5
 obtain⟨x6,rfl,rfl,rfl,w6⟩:=open_int Tryz.underlying5 (hval 6 5 v6 rfl rfl) h6
 clear hA0 hV0 hval0
 simp only[List.append_nil]at hW'
 have hlt0: ∀x∈p0,x.block<W.heap.size:=fun x hx=>hW'.lt x (by simp[hx])
 have hlt1: ∀x∈p1,x.block<W.heap.size:=fun x hx=>hW'.lt x (by simp[hx])
 refine(jwsBack_any ks0 ks1 A0 A1 n0 c0 n1 c1 x2 x3 x4 x5 x6 W (u16_bd w5).1 (u16_bd w5).2 (u8_bd w6).1 (u8_bd w6).2 a0 m0 b0 o0 r0 a1 m1 b1 o1 r1 (ask8_of hL hsh)).mono ?_
 rintro e W' ⟨rfl,bel⟩
 have e1:((OpenSpec.ofChange Rows.jwsBackSpec).at F).fn H ([d0,d1,.lit (.string x2.data.toList),.lit (.string x3.data.toList),.lit (.string x4.data.toList),.lit (.int .u16 x5),.lit (.int .u8 x6)]++[])={results:=[.lit (.bool true)],args:=[d0,d1,.lit (.string x2.data.toList),.lit (.string x3.data.toList),.lit (.string x4.data.toList),.lit (.int .u16 x5),.lit (.int .u8 x6)]}:=rfl
 refine⟨_,rfl,_,_,_,[],(p0++(p1++([]++([]++([]++([]++([]))))))),[],hW',?_,?_,?_,bel.frame _,fun h=>by cases h⟩
 ·rw[e1];exact trodAll_mk1 (shut_bool Tryz.underlying4 _)
 ·rw[e1];exact(⟨_,_,(Below.trod laidOutA (by kernel_rfl) (of_decide_eq_true (by kernel_rfl)) h0k bel hlt0),⟨_,_,(Below.trod laidOutA (by kernel_rfl) (of_decide_eq_true (by kernel_rfl)) h1k bel hlt1),⟨_,_,(shut_string Tryz.underlying9 w2),⟨_,_,(shut_string Tryz.underlying9 w3),⟨_,_,(shut_string Tryz.underlying9 w4),⟨_,_,(shut_int Tryz.underlying43 w5),trodAll_mk1 (shut_int Tryz.underlying5 w6),rfl⟩,rfl⟩,rfl⟩,rfl⟩,rfl⟩,rfl⟩)
 ·rw[e1];rfl
theorem jwsBack_said:Rows.JwsBackSaid:=
 OpenClaim.holds_of_cond 6 Tryz.f6 rfl rfl rfl rfl rfl rfl rfl ⟨rfl,rfl,rfl,rfl,rfl⟩ rfl rfl rfl rfl rfl (by kernel_rfl) Tryz.func6 zne
  (of_decide_eq_true (by kernel_rfl)) (by unfold Func.isWrapper;rw[if_neg (of_decide_eq_false (by kernel_rfl))];exact⟨rfl,rfl⟩)
  (fun os started H enc _ F0=>by rw[OpenClaim.pre_eq_preRow];exact zku os started H enc F0)
theorem jwsBack_card:Rows.JwsBackCardSaid:=
 Claim7.holds_tied_plain_at .later [] [.data,.data,.data,.handle,.data,.pinned] true (true, "e7985848cb6f30b6d4f7bbcd454f29335594b1fda69663c15b573e5eaaa62ed7") true
  jwsBack_said (fun _ h=>by cases h) (by kernel_rfl) (fun _ h=>by cases h) jwsBack_row_tie rfl ⟨rfl,rfl⟩ (by kernel_rfl) rfl
  (fun f fn hf hfn=>by
   obtain rfl:f=6:=Option.some.inj ((show Tryz.prog.funcNamed "warrant/warrantlaw08.JwsBack" =some 6 by kernel_rfl).symm.trans hf)|>.symm
   obtain rfl:fn=Tryz.f6:=(Option.some.inj (Tryz.func6.symm.trans hfn)).symm
   exact⟨by kernel_rfl,fun j t ht=>by
    rw[Tryz.params6]at ht
    have hm:t∈[22,9,43,5]:=by
     have:=Array.mem_of_getElem? ht
     simpa using this
    have hall:([22,9,43,5].all fun u=> !Tryz.prog.wantsStandIn u)=true:=by kernel_rfl
    exact(show Tryz.prog.wantsStandIn t=false by simpa using List.all_eq_true.1 hall t hm)⟩)
  (by kernel_rfl)
end Go.Proofs.YtceddodfddlncaaGreatDoor
