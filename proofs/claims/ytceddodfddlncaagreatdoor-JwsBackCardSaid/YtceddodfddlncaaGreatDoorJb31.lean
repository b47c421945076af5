
import Derived.Test.YtceddodfddlncaaGreatDoorJb30
set_option maxRecDepth 100000
set_option maxHeartbeats 16000000
set_option linter.all false
namespace Go.Proofs.YtceddodfddlncaaGreatDoor
open Go Go.RowKit
theorem memb_ok_Some (W wr:World) (rb:Nat) (s:ByteArray) (dep:Int) (hd:0≤dep∧dep≤9) (ms:List (ByteArray×J)) (zs:List MC) (vM:Value) (hvs:ms.length≤10000) (i n m:Int) (j k:Nat) (t:ByteArray) (ht:t.size≤9223372036854775807) (x:J) (p:Nat) (h:OInv W wr rb s dep ms zs vM i n) (hvL: ∃g0 cap0,vM= .slice (some ⟨g0,0,none⟩) ms.length cap0)
  (hnm:Calls Tryz.prog 194 #[.pointer (some ⟨rb,0,none⟩),vM] wr (fun e w'=>e= .returned (.string t)∧zcg wr w' rb s (j:Nat) n))
  (hbl: ∀w,Rdr w rb s (j:Nat) n→Calls Tryz.prog 129 #[.pointer (some ⟨rb,0,none⟩)] w (fun e w'=>e= .returned (.tuple #[])∧zcg w w' rb s (k:Nat) n))
  (hsg: ∀w,Rdr w rb s (k:Nat) n→Calls Tryz.prog 188 #[.pointer (some ⟨rb,0,none⟩),.int .u8 58] w (fun e w'=>e= .returned (.tuple #[])∧zcg w w' rb s (k+1:Nat) n))
  (hv: ∀w,Rdr w rb s (k+1:Nat) n→wr.grownBy w (some rb)→Calls Tryz.prog 128 #[.pointer (some ⟨rb,0,none⟩),.int .i64 (dep+1)] w (fun e w'=> ∃v q,e= .returned v∧RepS w' (fun b=>w.heap.size≤b) x v∧q≤s.size∧zaW (strL s) q=p∧zcg w w' rb s (q:Nat) m)):
  Calls Tryz.prog 193 #[.pointer (some ⟨W.heap.size,0,none⟩),.pointer (some ⟨W.heap.size+3,0,none⟩),.pointer (some ⟨W.heap.size+1,0,none⟩)] wr (MembOk W rb s dep ms t x p m):=by
 obtain⟨g0,cap0,rfl⟩:=hvL
 have HI0:=Lib.hid h
 have HNM:=Lib.hid hnm
 have HBL:=Lib.hid hbl
 have HSG:=Lib.hid hsg
 have HV0:=Lib.hid hv
 have k2:wr.cell? ⟨W.heap.size,0,none⟩=some (.pointer (some ⟨rb,0,none⟩)):=h.c2.cell 0
 have k3:wr.cell? ⟨W.heap.size+1,0,none⟩=some (.int .i64 dep):=h.c3.cell 0
 have k5:wr.cell? ⟨W.heap.size+3,0,none⟩=some (.slice (some ⟨g0,0,none⟩) ms.length cap0):=h.c5.cell 0
 have hlt:=h.lt
 have hsz:=h.sz
 obtain⟨d0,d1⟩:=hd
 have hw:IntKind.i64.wrap (dep+1)=dep+1:=by rw[IntKind.wrap_i64];omega
 have HT:=Lib.hid ht
 obtain⟨iM,hM,hM0,hM1,hM2⟩:=info_parts infoMp
 clear h hnm hbl hsg hv
 go_enter Tryz.func193,Tryz.ntmps193
 go_wp2_with(first|(go_at_call 194;(with_reducible refine HNM.out.mono ?_);rintro e w1 ⟨rfl,hg1,hr1⟩;have HG1:=Lib.hid hg1;have HR1:=Lib.hid hr1;have a2:w1.cell? ⟨W.heap.size,0,none⟩=some (.pointer (some ⟨rb,0,none⟩)):=zaZ k2 hg1 (by intro e;injection e with e<;>omega);clear hg1 hr1)|(go_at_call 129;(with_reducible refine(HBL.out _ HR1.out).mono ?_);rintro e w2 ⟨rfl,hg2,hr2⟩;have HG2:=Lib.hid (HG1.out.trans hg2);have HR2:=Lib.hid hr2;have b2:w2.cell? ⟨W.heap.size,0,none⟩=some (.pointer (some ⟨rb,0,none⟩)):=zaZ k2 HG2.out (by intro e;injection e with e<;>omega);clear hg2 hr2)|(go_at_call 188;(with_reducible refine(HSG.out _ HR2.out).mono ?_);rintro e w3 ⟨rfl,hg3,hr3⟩;have HG3:=Lib.hid (HG2.out.trans hg3);have HR3:=Lib.hid hr3;clear hg3 hr3)|fail)
 have HI:=Lib.hid (HI0.out.moved HG3.out HR3.out)
 have HV:=Lib.hid (fun w hr hg=>HV0.out w hr (HG3.out.trans hg))
 have l2:=zaZ k2 HG3.out (by intro e;injection e with e<;>omega)
 have l3:=zaZ k3 HG3.out (by intro e;injection e with e<;>omega)
 have l5:=zaZ k5 HG3.out (by intro e;injection e with e<;>omega)
 have hsz3:W.heap.size+4≤w3.heap.size:=HI.out.sz
 clear HI0 HV0 HNM HBL HSG HG1 HR1 HG2 HR2 HG3 HR3 a2 b2 k2 k3 k5 hsz
 refine wp_region_held_drew (S:=fun X=>X.cell? ⟨W.heap.size,0,none⟩=some (.pointer (some ⟨rb,0,none⟩))∧X.cell? ⟨W.heap.size+1,0,none⟩=some (.int .i64 dep)) (by kernel_rfl) ⟨l2,l3⟩ (fun hHeld=> ?_)
 refine wpAnyH_take (i:=1) (v:= ?v1q1) rfl (by kernel_rfl) (by kernel_rfl) (by kernel_rfl) (fun _ _ _ h=>h) (Or.inl ⟨by rfl,?hy1q1⟩) (by assumption) ?rest1q1
 case hy1q1=>(intro w hSw;(try obtain⟨hSa,hSb⟩:=hSw);first|(go_simp;done)|(go_simp;with_reducible rfl))
 try simp only[rgS]
 refine wpAnyH_take (i:=2) (v:= ?v2q2) rfl (by kernel_rfl) (by kernel_rfl) (by kernel_rfl) (fun _ _ _ h=>h) (Or.inl ⟨by rfl,?hy2q2⟩) (by assumption) ?rest2q2
 case hy2q2=>(intro w hSw;(try obtain⟨hSa,hSb⟩:=hSw);first|(go_simp;done)|(go_simp;with_reducible rfl))
 try simp only[rgS]
 refine wpAnyH_take (i:=3) (v:= ?v3q3) rfl (by kernel_rfl) (by kernel_rfl) (by kernel_rfl) (fun _ _ _ h=>h) (Or.inl ⟨by rfl,?hy3q3⟩) (by assumption) ?rest3q3
 case hy3q3=>(intro w hSw;(try obtain⟨hSa,hSb⟩:=hSw);first|(go_simp;done)|(go_simp;with_reducible rfl))
 try simp only[rgS]
 refine wpAnyH_take (i:=4) (v:= ?v4q4) rfl (by kernel_rfl) (by kernel_rfl) (by kernel_rfl) (fun _ _ _ h=>h) (Or.inl ⟨by rfl,?hy4q4⟩) (by assumption) ?rest4q4
 case hy4q4=>(intro w hSw;(try obtain⟨hSa,hSb⟩:=hSw);first|(go_simp;done)|(go_simp;with_reducible rfl))
 try simp only[rgS]
 refine wpAnyH_ready (rs:=[0,5]) (by kernel_rfl) (by simp) ?_
 refine AllReadyH.cons rfl (fun K hK=> ?_) ?_
 ·skip
  go_simp
  refine hK.out _ _ ⟨l2,l3⟩ (fun hH5=> ?_)
  clear hK K
  try simp only[rgS]
  refine wpAnyH_ready (rs:=[5]) (by kernel_rfl) (by simp) ?_
  refine AllReadyH.cons rfl (fun K hK=> ?_) AllReadyH.nil
  go_simp
  go_at_call 128
  (with_reducible refine(HV.out _ (Blk.drew HI.out.rdr) (zaJ (zaY w3 _))).mono ?_)
  rintro e w4 ⟨v,q,rfl,hrep,hq,hsk,hg3,hr3⟩
  obtain⟨vk,A,c9,rfl, -,⟨K9,d9,rfl, -, -⟩, -, -⟩:=hrep.open
  obtain⟨x0,hx0⟩: ∃a,a=x.kind:=⟨_,rfl⟩
  obtain⟨x1,hx1⟩: ∃a,a=x.n:=⟨_,rfl⟩
  obtain⟨x2,hx2⟩: ∃a,a=x.s:=⟨_,rfl⟩
  obtain⟨x3,hx3⟩: ∃a,a=x.l.length:=⟨_,rfl⟩
  obtain⟨x4,hx4⟩: ∃a,a=x.k.length:=⟨_,rfl⟩
  rw[←hx0,←hx1,←hx2,←hx3,←hx4]at hrep⊢
  clear hx0 hx1 hx2 hx3 hx4
  have HG3:=Lib.hid ((zaJ (zaY w3 _)).trans hg3)
  have HX:Hid (RepS w4 (fun b=>w3.heap.size≤b) x (.agg #[.int .i64 x0,.int .i64 x1,.string x2,.slice A x3 c9,.slice K9 x4 d9])):=Lib.hid (RepS.keeps (Keeps.refl _ w4) (fun b (h:_≤b) _=>h) _ _ hrep)
  have HQ:=Lib.hid (And.intro hq hsk)
  have HR3:=Lib.hid hr3
  clear hrep hq hsk hg3 hr3
  have m2:w4.cell? ⟨W.heap.size,0,none⟩=some (.pointer (some ⟨rb,0,none⟩)):=zaZ l2 HG3.out (by intro e;injection e with e<;>omega)
  have m3:w4.cell? ⟨W.heap.size+1,0,none⟩=some (.int .i64 dep):=zaZ l3 HG3.out (by intro e;injection e with e<;>omega)
  have m5:w4.cell? ⟨W.heap.size+3,0,none⟩=some (.slice (some ⟨g0,0,none⟩) ms.length cap0):=zaZ l5 HG3.out (by intro e;injection e with e<;>omega)
  refine hK.out _ _ ⟨m2,m3⟩ (fun hH6=> ?_)
  clear hK K
  try simp only[rgS]
  refine wpAnyH_take (i:=6) (v:= ?v6q7) rfl (by kernel_rfl) (by kernel_rfl) (by kernel_rfl) (fun _ _ _ h=>h) (Or.inl ⟨by rfl,?hy6q7⟩) (by assumption) ?rest6q7
  case hy6q7=>(intro w hSw;(try obtain⟨hSa,hSb⟩:=hSw);first|(go_simp;done)|(go_simp;with_reducible rfl))
  try simp only[rgS]
  refine wpAnyH_ready (rs:=[7]) (by kernel_rfl) (by simp) ?_
  refine AllReadyH.cons rfl (fun K hK=> ?_) AllReadyH.nil
  go_simp
  have hga:=World.grownBy_alloc w4 (.cells #[.string t,.int .i64 x0,.int .i64 x1,.string x2,.slice A x3 c9,.slice K9 x4 d9] 133) (some rb)
  have HGA:=Lib.hid (HG3.out.trans hga)
  have n2:(w4.alloc (.cells #[.string t,.int .i64 x0,.int .i64 x1,.string x2,.slice A x3 c9,.slice K9 x4 d9] 133)).cell? ⟨W.heap.size,0,none⟩=some (.pointer (some ⟨rb,0,none⟩)):=zaZ m2 hga (by intro e;injection e with e<;>omega)
  have n3:(w4.alloc (.cells #[.string t,.int .i64 x0,.int .i64 x1,.string x2,.slice A x3 c9,.slice K9 x4 d9] 133)).cell? ⟨W.heap.size+1,0,none⟩=some (.int .i64 dep):=zaZ m3 hga (by intro e;injection e with e<;>omega)
  have n5:(w4.alloc (.cells #[.string t,.int .i64 x0,.int .i64 x1,.string x2,.slice A x3 c9,.slice K9 x4 d9] 133)).cell? ⟨W.heap.size+3,0,none⟩=some (.slice (some ⟨g0,0,none⟩) ms.length cap0):=zaZ m5 hga (by intro e;injection e with e<;>omega)
  refine hK.out _ _ ⟨n2,n3⟩ (fun hH8=> ?_)
  clear hK K
  try simp only[rgS]
  refine wpAnyH_ready (rs:=[8]) (by kernel_rfl) (by simp) ?_
  refine AllReadyH.cons rfl (fun K hK=> ?_) AllReadyH.nil
  have HM:=Lib.hid (HI.out.moved HGA.out (Blk.grownN HR3.out (World.grownBy_alloc w4 (.cells #[.string t,.int .i64 x0,.int .i64 x1,.string x2,.slice A x3 c9,.slice K9 x4 d9] 133) none)))
  have hs4:W.heap.size+4≤(w4.alloc (.cells #[.string t,.int .i64 x0,.int .i64 x1,.string x2,.slice A x3 c9,.slice K9 x4 d9] 133)).heap.size:=HM.out.sz
  refine step_append_lies _ (by rfl) _ _ _ (by rfl) (W.heap.size+4) 133 iM (.agg #[.string ⟨#[]⟩,.int .i64 0,.int .i64 0,.string ⟨#[]⟩,.slice none 0 0,.slice none 0 0]) 6 96 Tryz.underlying174 hM hM0 hM1 hM2 rfl (by omega) (.slice (some ⟨g0,0,none⟩) ms.length cap0) ms.length (zeZ zs) (by rfl) HM.out.own ⟨w4.heap.size,0,none⟩ 1 1 [.string t,.int .i64 x0,.int .i64 x1,.string x2,.slice A x3 c9,.slice K9 x4 d9] (by rfl) (by rfl) (World.news_of_block (cs:= #[.string t,.int .i64 x0,.int .i64 x1,.string x2,.slice A x3 c9,.slice K9 x4 d9]) (t:=133) (fr:=(0,0)) (heap_alloc_new w4 (.cells #[.string t,.int .i64 x0,.int .i64 x1,.string x2,.slice A x3 c9,.slice K9 x4 d9] 133))) (by simp[Value.oneCell']) (by omega) (by unfold maxLen;omega) (by omega) (by omega) (w4.alloc (.cells #[.string t,.int .i64 x0,.int .i64 x1,.string x2,.slice A x3 c9,.slice K9 x4 d9] 133)).heap.size rfl ?_
  intro g cap w5 hown hgrow hat hlt5
  have hgB:W.heap.size+4≤g:=(hown.lt g rfl).1
  have HADD:=Lib.hid (HI.out.add HGA.out (Blk.grownN HR3.out (World.grownBy_alloc w4 (.cells #[.string t,.int .i64 x0,.int .i64 x1,.string x2,.slice A x3 c9,.slice K9 x4 d9] 133) none)) HT.out (RepS.keeps (Keeps.grown (World.grownBy_alloc w4 (.cells #[.string t,.int .i64 x0,.int .i64 x1,.string x2,.slice A x3 c9,.slice K9 x4 d9] 133) none) (fun b _ e=>by cases e)) (fun _ h _=>h) _ _ HX.out) hgrow hown (hat.imp_right (fun h=>Nat.le_of_eq h.symm)))
  have hno: ∀k,k<W.heap.size+4→some k≠(.slice (some ⟨g0,0,none⟩) ms.length cap0:Value).ownBlock:=fun k hk e=>by have:=(HI.out.own.lt k e.symm).1;omega
  have o2:=zaZ n2 hgrow (hno W.heap.size (by omega))
  have o3:=zaZ n3 hgrow (hno (W.heap.size+1) (by omega))
  have o5:=zaZ n5 hgrow (hno (W.heap.size+3) (by omega))
  have oz:w5.frozen? ⟨W.heap.size+3,0,none⟩=false:=(HM.out.c5.grown hgrow (hno _ (by omega))).frozen 0
  clear hown hgrow hat hlt5 hno
  refine hK.out _ _ ⟨o2,o3⟩ (fun hH9=> ?_)
  clear hK K
  try simp only[rgS]
  refine wpAnyH_ready (rs:=[9]) (by kernel_rfl) (by simp) ?_
  refine AllReadyH.cons rfl (fun K hK=> ?_) AllReadyH.nil
  go_simp
  refine hK.out _ _ ⟨zaZ o2 (zaV w5 (W.heap.size+3) 0 _) (by intro e;injection e with e<;>omega),zaZ o3 (zaV w5 (W.heap.size+3) 0 _) (by intro e;injection e with e<;>omega)⟩ (fun hHz=> ?_)
  clear hK K
  refine wpAnyH_done (by kernel_rfl) ?_ _
  go_end0
  exact⟨_,_,q,rfl,HQ.out.1,HQ.out.2,HADD.out⟩
 refine AllReadyH.cons rfl (fun K hK=> ?_) AllReadyH.nil
 go_simp
 go_at_call 128
 (with_reducible refine(HV.out _ (Blk.drew HI.out.rdr) (zaJ (zaY w3 _))).mono ?_)
 rintro e w4 ⟨v,q,rfl,hrep,hq,hsk,hg3,hr3⟩
 obtain⟨vk,A,c9,rfl, -,⟨K9,d9,rfl, -, -⟩, -, -⟩:=hrep.open
 obtain⟨x0,hx0⟩: ∃a,a=x.kind:=⟨_,rfl⟩
 obtain⟨x1,hx1⟩: ∃a,a=x.n:=⟨_,rfl⟩
 obtain⟨x2,hx2⟩: ∃a,a=x.s:=⟨_,rfl⟩
 obtain⟨x3,hx3⟩: ∃a,a=x.l.length:=⟨_,rfl⟩
 obtain⟨x4,hx4⟩: ∃a,a=x.k.length:=⟨_,rfl⟩
 rw[←hx0,←hx1,←hx2,←hx3,←hx4]at hrep⊢
 clear hx0 hx1 hx2 hx3 hx4
 have HG3:=Lib.hid ((zaJ (zaY w3 _)).trans hg3)
 have HX:Hid (RepS w4 (fun b=>w3.heap.size≤b) x (.agg #[.int .i64 x0,.int .i64 x1,.string x2,.slice A x3 c9,.slice K9 x4 d9])):=Lib.hid (RepS.keeps (Keeps.refl _ w4) (fun b (h:_≤b) _=>h) _ _ hrep)
 have HQ:=Lib.hid (And.intro hq hsk)
 have HR3:=Lib.hid hr3
 clear hrep hq hsk hg3 hr3
 have m2:w4.cell? ⟨W.heap.size,0,none⟩=some (.pointer (some ⟨rb,0,none⟩)):=zaZ l2 HG3.out (by intro e;injection e with e<;>omega)
 have m3:w4.cell? ⟨W.heap.size+1,0,none⟩=some (.int .i64 dep):=zaZ l3 HG3.out (by intro e;injection e with e<;>omega)
 have m5:w4.cell? ⟨W.heap.size+3,0,none⟩=some (.slice (some ⟨g0,0,none⟩) ms.length cap0):=zaZ l5 HG3.out (by intro e;injection e with e<;>omega)
 refine hK.out _ _ ⟨m2,m3⟩ (fun hH10=> ?_)
 clear hK K
 try simp only[rgS]
 refine wpAnyH_take (i:=6) (v:= ?v6q11) rfl (by kernel_rfl) (by kernel_rfl) (by kernel_rfl) (fun _ _ _ h=>h) (Or.inl ⟨by rfl,?hy6q11⟩) (by assumption) ?rest6q11
 case hy6q11=>(intro w hSw;(try obtain⟨hSa,hSb⟩:=hSw);first|(go_simp;done)|(go_simp;with_reducible rfl))
 try simp only[rgS]
 refine wpAnyH_ready (rs:=[0,7]) (by kernel_rfl) (by simp) ?_
 refine AllReadyH.cons rfl (fun K hK=> ?_) ?_
 ·skip
  go_simp
  refine hK.out _ _ ⟨m2,m3⟩ (fun hH12=> ?_)
  clear hK K
  try simp only[rgS]
  refine wpAnyH_ready (rs:=[7]) (by kernel_rfl) (by simp) ?_
  refine AllReadyH.cons rfl (fun K hK=> ?_) AllReadyH.nil
  go_simp
  have hga:=World.grownBy_alloc w4 (.cells #[.string t,.int .i64 x0,.int .i64 x1,.string x2,.slice A x3 c9,.slice K9 x4 d9] 133) (some rb)
  have HGA:=Lib.hid (HG3.out.trans hga)
  have n2:(w4.alloc (.cells #[.string t,.int .i64 x0,.int .i64 x1,.string x2,.slice A x3 c9,.slice K9 x4 d9] 133)).cell? ⟨W.heap.size,0,none⟩=some (.pointer (some ⟨rb,0,none⟩)):=zaZ m2 hga (by intro e;injection e with e<;>omega)
  have n3:(w4.alloc (.cells #[.string t,.int .i64 x0,.int .i64 x1,.string x2,.slice A x3 c9,.slice K9 x4 d9] 133)).cell? ⟨W.heap.size+1,0,none⟩=some (.int .i64 dep):=zaZ m3 hga (by intro e;injection e with e<;>omega)
  have n5:(w4.alloc (.cells #[.string t,.int .i64 x0,.int .i64 x1,.string x2,.slice A x3 c9,.slice K9 x4 d9] 133)).cell? ⟨W.heap.size+3,0,none⟩=some (.slice (some ⟨g0,0,none⟩) ms.length cap0):=zaZ m5 hga (by intro e;injection e with e<;>omega)
  refine hK.out _ _ ⟨n2,n3⟩ (fun hH13=> ?_)
  clear hK K
  try simp only[rgS]
  refine wpAnyH_ready (rs:=[8]) (by kernel_rfl) (by simp) ?_
  refine AllReadyH.cons rfl (fun K hK=> ?_) AllReadyH.nil
  have HM:=Lib.hid (HI.out.moved HGA.out (Blk.grownN HR3.out (World.grownBy_alloc w4 (.cells #[.string t,.int .i64 x0,.int .i64 x1,.string x2,.slice A x3 c9,.slice K9 x4 d9] 133) none)))
  have hs4:W.heap.size+4≤(w4.alloc (.cells #[.string t,.int .i64 x0,.int .i64 x1,.string x2,.slice A x3 c9,.slice K9 x4 d9] 133)).heap.size:=HM.out.sz
  refine step_append_lies _ (by rfl) _ _ _ (by rfl) (W.heap.size+4) 133 iM (.agg #[.string ⟨#[]⟩,.int .i64 0,.int .i64 0,.string ⟨#[]⟩,.slice none 0 0,.slice none 0 0]) 6 96 Tryz.underlying174 hM hM0 hM1 hM2 rfl (by omega) (.slice (some ⟨g0,0,none⟩) ms.length cap0) ms.length (zeZ zs) (by rfl) HM.out.own ⟨w4.heap.size,0,none⟩ 1 1 [.string t,.int .i64 x0,.int .i64 x1,.string x2,.slice A x3 c9,.slice K9 x4 d9] (by rfl) (by rfl) (World.news_of_block (cs:= #[.string t,.int .i64 x0,.int .i64 x1,.string x2,.slice A x3 c9,.slice K9 x4 d9]) (t:=133) (fr:=(0,0)) (heap_alloc_new w4 (.cells #[.string t,.int .i64 x0,.int .i64 x1,.string x2,.slice A x3 c9,.slice K9 x4 d9] 133))) (by simp[Value.oneCell']) (by omega) (by unfold maxLen;omega) (by omega) (by omega) (w4.alloc (.cells #[.string t,.int .i64 x0,.int .i64 x1,.string x2,.slice A x3 c9,.slice K9 x4 d9] 133)).heap.size rfl ?_
  intro g cap w5 hown hgrow hat hlt5
  have hgB:W.heap.size+4≤g:=(hown.lt g rfl).1
  have HADD:=Lib.hid (HI.out.add HGA.out (Blk.grownN HR3.out (World.grownBy_alloc w4 (.cells #[.string t,.int .i64 x0,.int .i64 x1,.string x2,.slice A x3 c9,.slice K9 x4 d9] 133) none)) HT.out (RepS.keeps (Keeps.grown (World.grownBy_alloc w4 (.cells #[.string t,.int .i64 x0,.int .i64 x1,.string x2,.slice A x3 c9,.slice K9 x4 d9] 133) none) (fun b _ e=>by cases e)) (fun _ h _=>h) _ _ HX.out) hgrow hown (hat.imp_right (fun h=>Nat.le_of_eq h.symm)))
  have hno: ∀k,k<W.heap.size+4→some k≠(.slice (some ⟨g0,0,none⟩) ms.length cap0:Value).ownBlock:=fun k hk e=>by have:=(HI.out.own.lt k e.symm).1;omega
  have o2:=zaZ n2 hgrow (hno W.heap.size (by omega))
  have o3:=zaZ n3 hgrow (hno (W.heap.size+1) (by omega))
  have o5:=zaZ n5 hgrow (hno (W.heap.size+3) (by omega))
  have oz:w5.frozen? ⟨W.heap.size+3,0,none⟩=false:=(HM.out.c5.grown hgrow (hno _ (by omega))).frozen 0
  clear hown hgrow hat hlt5 hno
  refine hK.out _ _ ⟨o2,o3⟩ (fun hH14=> ?_)
  clear hK K
  try simp only[rgS]
  refine wpAnyH_ready (rs:=[9]) (by kernel_rfl) (by simp) ?_
  refine AllReadyH.cons rfl (fun K hK=> ?_) AllReadyH.nil
  go_simp
  refine hK.out _ _ ⟨zaZ o2 (zaV w5 (W.heap.size+3) 0 _) (by intro e;injection e with e<;>omega),zaZ o3 (zaV w5 (W.heap.size+3) 0 _) (by intro e;injection e with e<;>omega)⟩ (fun hHz=> ?_)
  clear hK K
  refine wpAnyH_done (by kernel_rfl) ?_ _
  go_end0
  exact⟨_,_,q,rfl,HQ.out.1,HQ.out.2,HADD.out⟩
 refine AllReadyH.cons rfl (fun K hK=> ?_) AllReadyH.nil
 go_simp
 have hga:=World.grownBy_alloc w4 (.cells #[.string t,.int .i64 x0,.int .i64 x1,.string x2,.slice A x3 c9,.slice K9 x4 d9] 133) (some rb)
 have HGA:=Lib.hid (HG3.out.trans hga)
 have n2:(w4.alloc (.cells #[.string t,.int .i64 x0,.int .i64 x1,.string x2,.slice A x3 c9,.slice K9 x4 d9] 133)).cell? ⟨W.heap.size,0,none⟩=some (.pointer (some ⟨rb,0,none⟩)):=zaZ m2 hga (by intro e;injection e with e<;>omega)
 have n3:(w4.alloc (.cells #[.string t,.int .i64 x0,.int .i64 x1,.string x2,.slice A x3 c9,.slice K9 x4 d9] 133)).cell? ⟨W.heap.size+1,0,none⟩=some (.int .i64 dep):=zaZ m3 hga (by intro e;injection e with e<;>omega)
 have n5:(w4.alloc (.cells #[.string t,.int .i64 x0,.int .i64 x1,.string x2,.slice A x3 c9,.slice K9 x4 d9] 133)).cell? ⟨W.heap.size+3,0,none⟩=some (.slice (some ⟨g0,0,none⟩) ms.length cap0):=zaZ m5 hga (by intro e;injection e with e<;>omega)
 refine hK.out _ _ ⟨n2,n3⟩ (fun hH15=> ?_)
 clear hK K
 try simp only[rgS]
 refine wpAnyH_ready (rs:=[0]) (by kernel_rfl) (by simp) ?_
 refine AllReadyH.cons rfl (fun K hK=> ?_) AllReadyH.nil
 go_simp
 refine hK.out _ _ ⟨n2,n3⟩ (fun hH16=> ?_)
 clear hK K
 try simp only[rgS]
 refine wpAnyH_ready (rs:=[8]) (by kernel_rfl) (by simp) ?_
 refine AllReadyH.cons rfl (fun K hK=> ?_) AllReadyH.nil
 have HM:=Lib.hid (HI.out.moved HGA.out (Blk.grownN HR3.out (World.grownBy_alloc w4 (.cells #[.string t,.int .i64 x0,.int .i64 x1,.string x2,.slice A x3 c9,.slice K9 x4 d9] 133) none)))
 have hs4:W.heap.size+4≤(w4.alloc (.cells #[.string t,.int .i64 x0,.int .i64 x1,.string x2,.slice A x3 c9,.slice K9 x4 d9] 133)).heap.size:=HM.out.sz
 refine step_append_lies _ (by rfl) _ _ _ (by rfl) (W.heap.size+4) 133 iM (.agg #[.string ⟨#[]⟩,.int .i64 0,.int .i64 0,.string ⟨#[]⟩,.slice none 0 0,.slice none 0 0]) 6 96 Tryz.underlying174 hM hM0 hM1 hM2 rfl (by omega) (.slice (some ⟨g0,0,none⟩) ms.length cap0) ms.length (zeZ zs) (by rfl) HM.out.own ⟨w4.heap.size,0,none⟩ 1 1 [.string t,.int .i64 x0,.int .i64 x1,.string x2,.slice A x3 c9,.slice K9 x4 d9] (by rfl) (by rfl) (World.news_of_block (cs:= #[.string t,.int .i64 x0,.int .i64 x1,.string x2,.slice A x3 c9,.slice K9 x4 d9]) (t:=133) (fr:=(0,0)) (heap_alloc_new w4 (.cells #[.string t,.int .i64 x0,.int .i64 x1,.string x2,.slice A x3 c9,.slice K9 x4 d9] 133))) (by simp[Value.oneCell']) (by omega) (by unfold maxLen;omega) (by omega) (by omega) (w4.alloc (.cells #[.string t,.int .i64 x0,.int .i64 x1,.string x2,.slice A x3 c9,.slice K9 x4 d9] 133)).heap.size rfl ?_
 intro g cap w5 hown hgrow hat hlt5
 have hgB:W.heap.size+4≤g:=(hown.lt g rfl).1
 have HADD:=Lib.hid (HI.out.add HGA.out (Blk.grownN HR3.out (World.grownBy_alloc w4 (.cells #[.string t,.int .i64 x0,.int .i64 x1,.string x2,.slice A x3 c9,.slice K9 x4 d9] 133) none)) HT.out (RepS.keeps (Keeps.grown (World.grownBy_alloc w4 (.cells #[.string t,.int .i64 x0,.int .i64 x1,.string x2,.slice A x3 c9,.slice K9 x4 d9] 133) none) (fun b _ e=>by cases e)) (fun _ h _=>h) _ _ HX.out) hgrow hown (hat.imp_right (fun h=>Nat.le_of_eq h.symm)))
 have hno: ∀k,k<W.heap.size+4→some k≠(.slice (some ⟨g0,0,none⟩) ms.length cap0:Value).ownBlock:=fun k hk e=>by have:=(HI.out.own.lt k e.symm).1;omega
 have o2:=zaZ n2 hgrow (hno W.heap.size (by omega))
 have o3:=zaZ n3 hgrow (hno (W.heap.size+1) (by omega))
 have o5:=zaZ n5 hgrow (hno (W.heap.size+3) (by omega))
 have oz:w5.frozen? ⟨W.heap.size+3,0,none⟩=false:=(HM.out.c5.grown hgrow (hno _ (by omega))).frozen 0
 clear hown hgrow hat hlt5 hno
 refine hK.out _ _ ⟨o2,o3⟩ (fun hH17=> ?_)
 clear hK K
 try simp only[rgS]
 refine wpAnyH_ready (rs:=[9]) (by kernel_rfl) (by simp) ?_
 refine AllReadyH.cons rfl (fun K hK=> ?_) AllReadyH.nil
 go_simp
 refine hK.out _ _ ⟨zaZ o2 (zaV w5 (W.heap.size+3) 0 _) (by intro e;injection e with e<;>omega),zaZ o3 (zaV w5 (W.heap.size+3) 0 _) (by intro e;injection e with e<;>omega)⟩ (fun hHz=> ?_)
 clear hK K
 refine wpAnyH_done (by kernel_rfl) ?_ _
 go_end0
 exact⟨_,_,q,rfl,HQ.out.1,HQ.out.2,HADD.out⟩
theorem memb_bad (W wr:World) (rb:Nat) (s:ByteArray) (dep:Int) (hd:0≤dep∧dep≤9) (ms:List (ByteArray×J)) (zs:List MC) (vM:Value) (i n p er:Int) (j k:Nat) (t:ByteArray) (h:OInv W wr rb s dep ms zs vM i n)
  (hnm:Calls Tryz.prog 194 #[.pointer (some ⟨rb,0,none⟩),vM] wr (fun e w'=>e= .returned (.string t)∧zcg wr w' rb s (j:Nat) n))
  (hbl: ∀w,Rdr w rb s (j:Nat) n→Calls Tryz.prog 129 #[.pointer (some ⟨rb,0,none⟩)] w (fun e w'=>e= .returned (.tuple #[])∧zcg w w' rb s (k:Nat) n))
  (hsg: ∀w,Rdr w rb s (k:Nat) n→Calls Tryz.prog 188 #[.pointer (some ⟨rb,0,none⟩),.int .u8 58] w (fun e w'=>e= .returned (.tuple #[])∧zcg w w' rb s (k+1:Nat) n))
  (hv: ∀w,Rdr w rb s (k+1:Nat) n→wr.grownBy w (some rb)→Calls Tryz.prog 128 #[.pointer (some ⟨rb,0,none⟩),.int .i64 (dep+1)] w (fun e w'=>e= .panicked (flt p er)∧w.grownBy w' (some rb))):
  Calls Tryz.prog 193 #[.pointer (some ⟨W.heap.size,0,none⟩),.pointer (some ⟨W.heap.size+3,0,none⟩),.pointer (some ⟨W.heap.size+1,0,none⟩)] wr (fun e w'=>e= .panicked (flt p er)∧W.grownBy w' (some rb)):=by
 have HI0:=Lib.hid h
 have HNM:=Lib.hid hnm
 have HBL:=Lib.hid hbl
 have HSG:=Lib.hid hsg
 have HV0:=Lib.hid hv
 have k2:wr.cell? ⟨W.heap.size,0,none⟩=some (.pointer (some ⟨rb,0,none⟩)):=h.c2.cell 0
 have k3:wr.cell? ⟨W.heap.size+1,0,none⟩=some (.int .i64 dep):=h.c3.cell 0
 have k5:wr.cell? ⟨W.heap.size+3,0,none⟩=some (vM):=h.c5.cell 0
 have hlt:=h.lt
 have hsz:=h.sz
 obtain⟨d0,d1⟩:=hd
 have hw:IntKind.i64.wrap (dep+1)=dep+1:=by rw[IntKind.wrap_i64];omega
 clear h hnm hbl hsg hv
 go_enter Tryz.func193,Tryz.ntmps193
 go_wp2_with(first|(go_at_call 194;(with_reducible refine HNM.out.mono ?_);rintro e w1 ⟨rfl,hg1,hr1⟩;have HG1:=Lib.hid hg1;have HR1:=Lib.hid hr1;have a2:w1.cell? ⟨W.heap.size,0,none⟩=some (.pointer (some ⟨rb,0,none⟩)):=zaZ k2 hg1 (by intro e;injection e with e<;>omega);clear hg1 hr1)|(go_at_call 129;(with_reducible refine(HBL.out _ HR1.out).mono ?_);rintro e w2 ⟨rfl,hg2,hr2⟩;have HG2:=Lib.hid (HG1.out.trans hg2);have HR2:=Lib.hid hr2;have b2:w2.cell? ⟨W.heap.size,0,none⟩=some (.pointer (some ⟨rb,0,none⟩)):=zaZ k2 HG2.out (by intro e;injection e with e<;>omega);clear hg2 hr2)|(go_at_call 188;(with_reducible refine(HSG.out _ HR2.out).mono ?_);rintro e w3 ⟨rfl,hg3,hr3⟩;have HG3:=Lib.hid (HG2.out.trans hg3);have HR3:=Lib.hid hr3;clear hg3 hr3)|fail)
 have HI:=Lib.hid (HI0.out.moved HG3.out HR3.out)
 have HV:=Lib.hid (fun w hr hg=>HV0.out w hr (HG3.out.trans hg))
 have l2:=zaZ k2 HG3.out (by intro e;injection e with e<;>omega)
 have l3:=zaZ k3 HG3.out (by intro e;injection e with e<;>omega)
 have l5:=zaZ k5 HG3.out (by intro e;injection e with e<;>omega)
 have hsz3:W.heap.size+4≤w3.heap.size:=HI.out.sz
 clear HI0 HV0 HNM HBL HSG HG1 HR1 HG2 HR2 HG3 HR3 a2 b2 k2 k3 k5 hsz
 refine wp_region_held_drew (S:=fun X=>X.cell? ⟨W.heap.size,0,none⟩=some (.pointer (some ⟨rb,0,none⟩))∧X.cell? ⟨W.heap.size+1,0,none⟩=some (.int .i64 dep)) (by kernel_rfl) ⟨l2,l3⟩ (fun hHeld=> ?_)
 refine wpAnyH_take (i:=1) (v:= ?v1q35) rfl (by kernel_rfl) (by kernel_rfl) (by kernel_rfl) (fun _ _ _ h=>h) (Or.inl ⟨by rfl,?hy1q35⟩) (by assumption) ?rest1q35
 case hy1q35=>(intro w hSw;(try obtain⟨hSa,hSb⟩:=hSw);first|(go_simp;done)|(go_simp;with_reducible rfl))
 try simp only[rgS]
 refine wpAnyH_take (i:=2) (v:= ?v2q36) rfl (by kernel_rfl) (by kernel_rfl) (by kernel_rfl) (fun _ _ _ h=>h) (Or.inl ⟨by rfl,?hy2q36⟩) (by assumption) ?rest2q36
 case hy2q36=>(intro w hSw;(try obtain⟨hSa,hSb⟩:=hSw);first|(go_simp;done)|(go_simp;with_reducible rfl))
 try simp only[rgS]
 refine wpAnyH_take (i:=3) (v:= ?v3q37) rfl (by kernel_rfl) (by kernel_rfl) (by kernel_rfl) (fun _ _ _ h=>h) (Or.inl ⟨by rfl,?hy3q37⟩) (by assumption) ?rest3q37
 case hy3q37=>(intro w hSw;(try obtain⟨hSa,hSb⟩:=hSw);first|(go_simp;done)|(go_simp;with_reducible rfl))
 try simp only[rgS]
 refine wpAnyH_take (i:=4) (v:= ?v4q38) rfl (by kernel_rfl) (by kernel_rfl) (by kernel_rfl) (fun _ _ _ h=>h) (Or.inl ⟨by rfl,?hy4q38⟩) (by assumption) ?rest4q38
 case hy4q38=>(intro w hSw;(try obtain⟨hSa,hSb⟩:=hSw);first|(go_simp;done)|(go_simp;with_reducible rfl))
 try simp only[rgS]
 refine wpAnyH_ready (rs:=[0,5]) (by kernel_rfl) (by simp) ?_
 refine AllReadyH.cons rfl (fun K hK=> ?_) ?_
 ·skip
  go_simp
  refine hK.out _ _ ⟨l2,l3⟩ (fun hHeld=> ?_)
  clear hK K
  try simp only[rgS]
  refine wpAnyH_ready (rs:=[5]) (by kernel_rfl) (by simp) ?_
  refine AllReadyH.cons rfl (fun K hK=> ?_) AllReadyH.nil
  go_simp
  go_at_call 128
  (with_reducible refine(HV.out _ (Blk.drew HI.out.rdr) (zaJ (zaY w3 _))).mono ?_)
  rintro e w4 ⟨rfl,hg3⟩
  exact⟨rfl,rfl,HI.out.gr.trans ((zaJ (zaY w3 _)).trans hg3)⟩
 refine AllReadyH.cons rfl (fun K hK=> ?_) AllReadyH.nil
 go_simp
 go_at_call 128
 (with_reducible refine(HV.out _ (Blk.drew HI.out.rdr) (zaJ (zaY w3 _))).mono ?_)
 rintro e w4 ⟨rfl,hg3⟩
 exact⟨rfl,rfl,HI.out.gr.trans ((zaJ (zaY w3 _)).trans hg3)⟩
theorem znY (W wr:World) (rb:Nat) (s:ByteArray) (dep:Int) (ms:List (ByteArray×J)) (zs:List MC) (vM:Value) (i n p er:Int) (h:OInv W wr rb s dep ms zs vM i n)
  (hnm:Calls Tryz.prog 194 #[.pointer (some ⟨rb,0,none⟩),vM] wr (fun e w'=>e= .panicked (flt p er)∧wr.grownBy w' (some rb))):
  Calls Tryz.prog 193 #[.pointer (some ⟨W.heap.size,0,none⟩),.pointer (some ⟨W.heap.size+3,0,none⟩),.pointer (some ⟨W.heap.size+1,0,none⟩)] wr (fun e w'=>e= .panicked (flt p er)∧W.grownBy w' (some rb)):=by
 have HI0:=Lib.hid h
 have HNM:=Lib.hid hnm
 have k2:wr.cell? ⟨W.heap.size,0,none⟩=some (.pointer (some ⟨rb,0,none⟩)):=h.c2.cell 0
 have k3:wr.cell? ⟨W.heap.size+1,0,none⟩=some (.int .i64 dep):=h.c3.cell 0
 have k5:wr.cell? ⟨W.heap.size+3,0,none⟩=some vM:=h.c5.cell 0
 clear h hnm
 go_enter Tryz.func193,Tryz.ntmps193
 go_wp2_with(go_at_call 194;(with_reducible refine HNM.out.mono ?_);rintro e w1 ⟨rfl,hg1⟩;have HG1:=Lib.hid hg1;clear hg1)
 exact⟨rfl,rfl,HI0.out.gr.trans HG1.out⟩
theorem znW (W wr:World) (rb:Nat) (s:ByteArray) (dep:Int) (ms:List (ByteArray×J)) (zs:List MC) (vM:Value) (i n p er:Int) (j k:Nat) (t:ByteArray) (h:OInv W wr rb s dep ms zs vM i n)
  (hnm:Calls Tryz.prog 194 #[.pointer (some ⟨rb,0,none⟩),vM] wr (fun e w'=>e= .returned (.string t)∧zcg wr w' rb s (j:Nat) n))
  (hbl: ∀w,Rdr w rb s (j:Nat) n→Calls Tryz.prog 129 #[.pointer (some ⟨rb,0,none⟩)] w (fun e w'=>e= .returned (.tuple #[])∧zcg w w' rb s (k:Nat) n))
  (hsg: ∀w,Rdr w rb s (k:Nat) n→Calls Tryz.prog 188 #[.pointer (some ⟨rb,0,none⟩),.int .u8 58] w (fun e w'=>e= .panicked (flt p er)∧w.grownBy w' (some rb))):
  Calls Tryz.prog 193 #[.pointer (some ⟨W.heap.size,0,none⟩),.pointer (some ⟨W.heap.size+3,0,none⟩),.pointer (some ⟨W.heap.size+1,0,none⟩)] wr (fun e w'=>e= .panicked (flt p er)∧W.grownBy w' (some rb)):=by
 have HI0:=Lib.hid h
 have HNM:=Lib.hid hnm
 have HBL:=Lib.hid hbl
 have HSG:=Lib.hid hsg
 have k2:wr.cell? ⟨W.heap.size,0,none⟩=some (.pointer (some ⟨rb,0,none⟩)):=h.c2.cell 0
 have k3:wr.cell? ⟨W.heap.size+1,0,none⟩=some (.int .i64 dep):=h.c3.cell 0
 have k5:wr.cell? ⟨W.heap.size+3,0,none⟩=some vM:=h.c5.cell 0
 have hlt:=h.lt
 have hsz:=h.sz
 clear h hnm hbl hsg
 go_enter Tryz.func193,Tryz.ntmps193
 go_wp2_with(first|(go_at_call 194;(with_reducible refine HNM.out.mono ?_);rintro e w1 ⟨rfl,hg1,hr1⟩;have HG1:=Lib.hid hg1;have HR1:=Lib.hid hr1;have a2:w1.cell? ⟨W.heap.size,0,none⟩=some (.pointer (some ⟨rb,0,none⟩)):=zaZ k2 hg1 (by intro e;injection e with e<;>omega);clear hg1 hr1)|(go_at_call 129;(with_reducible refine(HBL.out _ HR1.out).mono ?_);rintro e w2 ⟨rfl,hg2,hr2⟩;have HG2:=Lib.hid (HG1.out.trans hg2);have HR2:=Lib.hid hr2;have b2:w2.cell? ⟨W.heap.size,0,none⟩=some (.pointer (some ⟨rb,0,none⟩)):=zaZ k2 HG2.out (by intro e;injection e with e<;>omega);clear hg2 hr2)|(go_at_call 188;(with_reducible refine(HSG.out _ HR2.out).mono ?_);rintro e w3 ⟨rfl,hg3⟩;have HG3:=Lib.hid (HG2.out.trans hg3);clear hg3))
 exact⟨rfl,rfl,HI0.out.gr.trans HG3.out⟩
def zih (l:List Int) (d:Nat) (i:Nat) (left:Int) (ms:List (ByteArray×J)):(Nat×Int)⊕(Nat×Int×List (ByteArray×J)):=
 match zii l i (ms.map Prod.fst)with
 | .inl e=> .inl e
 | .inr (t,j)=>if atL l (zaW l j)≠58 then .inl (zaW l j,50)
  else if(valueL l d (zaW l (zaW l j+1)) left).2.2.2≠0 then .inl ((valueL l d (zaW l (zaW l j+1)) left).2.1,(valueL l d (zaW l (zaW l j+1)) left).2.2.2)
  else .inr ((valueL l d (zaW l (zaW l j+1)) left).2.1,(valueL l d (zaW l (zaW l j+1)) left).2.2.1,ms++[(t,(valueL l d (zaW l (zaW l j+1)) left).1)])
def zcx (ms:List (ByteArray×J)):List ByteArray×List J:=ms.foldl (fun a m=>zca m.1 m.2 false a.1 a.2) ([],[])
theorem zgZ (ms:List (ByteArray×J)) (t:ByteArray) (x:J):zcx (ms++[(t,x)])=zca t x false (zcx ms).1 (zcx ms).2:=by
 unfold zcx;rw[List.foldl_append];rfl
theorem zgp (a b:List ByteArray) (u:ByteArray):hasK (a++b) u=(hasK a u||hasK b u):=by unfold hasK;rw[List.any_append]
theorem znj (t:ByteArray) (x:J) (u:ByteArray): ∀(ks:List ByteArray) (vs:List J) (d:Bool),hasK (zca t x d ks vs).1 u=if t=u then !d else hasK ks u
 |[],vs,false=>by
  rw[zca];unfold hasK
  by_cases h:t=u
  ·simp[h]
  ·simp[h]
 |[],vs,true=>by
  rw[zca];unfold hasK
  by_cases h:t=u
  ·simp[h]
  ·simp[h]
 |k::ks,vs,d=>by
  rw[zca]
  show hasK ((if d=false∧Op.bytesLess k.toList t.toList=false then([t],[x])else([],[]):List ByteArray×List J).1++(if k=t then([],[])else([k],[vs.headD zeroJ]):List ByteArray×List J).1++(zca t x (d|| !Op.bytesLess k.toList t.toList) ks vs.tail).1) u=_
  rw[zgp,zgp,znj t x u ks vs.tail]
  generalize Op.bytesLess k.toList t.toList=b
  have hk:hasK (k::ks) u=(decide (k=u)||hasK ks u):=by unfold hasK;rw[List.any_cons]
  rw[hk]
  by_cases h:t=u
  ·subst h
   rw[if_pos rfl,if_pos rfl]
   have h2:hasK (if k=t then([],[])else([k],[vs.headD zeroJ]):List ByteArray×List J).1 t=false:=by
    by_cases hk:k=t
    ·rw[if_pos hk];rfl
    ·rw[if_neg hk];unfold hasK;simp[hk]
   rw[h2]
   cases d<;>cases b<;>simp[hasK]
  ·rw[if_neg h,if_neg h]
   have h1:hasK (if d=false∧b=false then([t],[x])else([],[]):List ByteArray×List J).1 u=false:=by
    split
    ·unfold hasK;simp[h]
    ·rfl
   have h2:hasK (if k=t then([],[])else([k],[vs.headD zeroJ]):List ByteArray×List J).1 u=decide (k=u):=by
    by_cases hk:k=t
    ·rw[if_pos hk,decide_eq_false (fun e=>h (hk.symm.trans e))];rfl
    ·rw[if_neg hk];unfold hasK;simp
   rw[h1,h2,Bool.false_or]
theorem hasK_puts (u:ByteArray) (ms:List (ByteArray×J)):hasK (zcx ms).1 u=hasK (ms.map Prod.fst) u:=by
 suffices h: ∀(n:Nat) (ms:List (ByteArray×J)),ms.length=n→hasK (zcx ms).1 u=hasK (ms.map Prod.fst) u from h _ ms rfl
 intro n
 induction n with
 |zero=>intro ms h;rw[List.eq_nil_of_length_eq_zero h];rfl
 |succ n ih=>
  intro ms h
  obtain⟨m,t,x,rfl⟩: ∃m t x,ms=m++[(t,x)]:=⟨ms.dropLast,(ms.getLast (by intro e;rw[e]at h;cases h)).1,(ms.getLast (by intro e;rw[e]at h;cases h)).2,(List.dropLast_concat_getLast _).symm⟩
  rw[zgZ,znj,List.map_append,zgp,←ih m (by simpa using h)]
  by_cases e:t=u
  ·rw[if_pos e];simp[hasK,e]
  ·rw[if_neg e];simp[hasK,e]
def SameO (l:List Int) (r:(Nat×Int)⊕(Nat×Int×List (ByteArray×J))) (v:VR):Prop:=match r with
 | .inl (p,er)=>er≠0∧v.2.1=p∧v.2.2.2=er
 | .inr (j,lf,ms)=>v=(.mk 5 0 ⟨#[]⟩ (zcx ms).2 (zcx ms).1,zaW l j,lf,0)
theorem goI_manyO (l:List Int) (d:Nat): ∀(f g i:Nat) (left:Int) (ms:List (ByteArray×J)),i≤l.length→0≤left→l.length<i+f→l.length<i+g→
  SameO l (goI l 125 (zih l d) f i left ms) (zfg l (valueL l d) true (zat l (valueL l d) true g false) (zaW l i) left (zcx ms).1 (zcx ms).2)
 |0,g,i,left,ms,hi,_,hf,_=>absurd hf (by omega)
 |f+1,0,i,left,ms,hi,_,_,hg=>absurd hg (by omega)
 |f+1,g+1,i,left,ms,hi,hl,hf,hg=>by
  have hsk:=zak hi
  have hqg:=zgQ l (zaW l i)
  have hql:=zdr l (zaW l i)
  rw[goI]
  unfold zfg zih zii
  rw[if_pos (show(true=true)from rfl),hasK_puts]
  obtain⟨Q,hQ⟩: ∃Q,Q=zan l (zaW l i):=⟨_,rfl⟩
  rw[←hQ]at hqg hql⊢
  by_cases he:Q.2.2≠0
  ·rw[if_pos he,if_pos he]
   exact⟨he,rfl,rfl⟩
  ·rw[if_neg he,if_neg he]
   have hqg:=hqg (by omega)
   have hql:=hql (by omega)
   by_cases hh:hasK (ms.map Prod.fst) (toS Q.1)=true
   ·rw[if_pos hh,if_pos hh]
    exact⟨show(52:Int)≠0 by decide,rfl,rfl⟩
   ·rw[if_neg hh,if_neg hh]
    dsimp only
    by_cases h58:atL l (zaW l Q.2.1)≠58
    ·rw[if_pos h58,if_pos h58]
     exact⟨show(50:Int)≠0 by decide,rfl,rfl⟩
    ·rw[if_neg h58,if_neg h58]
     have hs1:=zak (l:=l) (i:=Q.2.1) hql
     have hlt1:=zbZ (l:=l) (i:=zaW l Q.2.1) (by omega)
     have hs2:=zak (l:=l) (i:=zaW l Q.2.1+1) hlt1
     have hmv:=zbh l d (zaW l (zaW l Q.2.1+1)) left hs2.2
     unfold zfa
     obtain⟨r,hr⟩: ∃r,r=valueL l d (zaW l (zaW l Q.2.1+1)) left:=⟨_,rfl⟩
     rw[←hr]at hmv⊢
     by_cases he2:r.2.2.2≠0
     ·rw[if_pos he2,if_pos he2]
      exact⟨he2,rfl,rfl⟩
     ·rw[if_neg he2,if_neg he2]
      obtain⟨h1,h2,h3,h4⟩:=hmv (by omega)
      show SameO l (if atL l r.2.1=44 then _ else if atL l r.2.1=125 then _ else _) _
      rw[if_pos (show(true=true)from rfl),if_pos (show(true=true)from rfl)]
      by_cases h44:atL l r.2.1=44
      ·rw[if_pos h44,if_neg (fun h=>h.1 h44)]
       have hlt:=zbZ (l:=l) (i:=r.2.1) (by omega)
       rw[zat,if_neg (by rw[if_pos (show(true=true)from rfl)];omega),if_neg (by decide),if_neg (fun h=>h h44),←zgZ]
       exact goI_manyO l d f g (r.2.1+1) r.2.2.1 (ms++[(toS Q.1,r.1)]) hlt h3 (by omega) (by omega)
      ·rw[if_neg h44]
       by_cases h93:atL l r.2.1=125
       ·rw[if_pos h93,if_neg (fun h=>h.2 h93),←zgZ]
        rw[zat,if_pos (by rw[if_pos (show(true=true)from rfl)];exact h93)]
        rfl
       ·rw[if_neg h93,if_pos ⟨h44,h93⟩]
        exact⟨show(50:Int)≠0 by decide,rfl,rfl⟩
theorem many_sameO (l:List Int) (d i:Nat) (left:Int) (hi:i<l.length) (hl:0≤left) (h123:atL l i=123):
  SameO l (if atL l (zaW l (i+1))=125 then .inr (zaW l (i+1)+1,left,[])else goI l 125 (zih l d) (l.length+1) (zaW l (i+1)) left []) (zfK l (valueL l d) i left):=by
 have hsk:=zak (l:=l) (i:=i+1) hi
 have hss:zaW l (zaW l (i+1))=zaW l (i+1):=zbu (zjf _ _ _ (Nat.le_refl _))
 unfold zfK
 rw[decide_eq_true h123,zat,if_pos (show(true=true)from rfl)]
 by_cases h:atL l (zaW l (i+1))=125
 ·rw[if_pos h,if_pos h];rfl
 ·rw[if_neg h,if_neg h,if_pos rfl]
  have:=goI_manyO l d (l.length+1) l.length (zaW l (i+1)) left [] hsk.2 hl (by omega) (by omega)
  rw[hss]at this
  exact this
def OI (W:World) (rb:Nat) (s:ByteArray) (dep:Int) (w:World) (i:Nat) (left:Int) (ms:List (ByteArray×J)):Prop:=
 (∃zs vM,OInv W w rb s dep ms zs vM i (256-left))∧0≤left∧left≤256∧i≤s.size∧(ms.length:Int)+left≤256∧GW W rb
theorem zhd {l:List Int} {i:Nat} {ks:List ByteArray} {t:ByteArray} {j:Nat} (h:zii l i ks= .inr (t,j)) (hi:i≤l.length):i<j∧j≤l.length∧t.size≤4*l.length+4∧hasK ks t=false:=by
 have hsk:=zak (l:=l) hi
 unfold zii at h
 split at h
 ·cases h
 ·rename_i he
  split at h
  ·cases h
  ·rename_i hh
   injection h with h
   injection h with h1 h2
   have:=zgQ l (zaW l i) (by omega)
   have:=zdr l (zaW l i) (by omega)
   have:=zjp l (zaW l i)
   refine⟨by omega,by omega,?_,by rw[←h1];simpa using hh⟩
   rw[←h1,zcm];exact this
theorem objItems (W:World) (rb d:Nat) (s:ByteArray) (hs:s.size≤10000) (hd:d≤7) (hv:zfu s rb d):
  ItemAsk s rb 193 #[.pointer (some ⟨W.heap.size,0,none⟩),.pointer (some ⟨W.heap.size+3,0,none⟩),.pointer (some ⟨W.heap.size+1,0,none⟩)] (zih (strL s) d) (OI W rb s (8-(d:Int))) (fun w'=>W.grownBy w' (some rb)) where
 rdr:=fun w i left ms h=>by obtain⟨⟨zs,vM,hI⟩,_⟩:=h;exact hI.rdr
 left:=fun w i left ms h=>⟨h.2.1,h.2.2.1,h.2.2.2.1⟩
 moved:=fun w w2 i k left ms h hk hg hr=>by
  obtain⟨⟨zs,vM,hI⟩,h0,h1,hi,hl,hw⟩:=h
  exact⟨⟨zs,vM,hI.moved hg hr⟩,h0,h1,hk,hl,hw⟩
 gone:=fun w w2 i left ms h hg=>by
  obtain⟨⟨zs,vM,hI⟩,_⟩:=h
  exact hI.gr.trans hg
 more:=fun i left ms j left' ms' hi h0 h1 h=>by
  unfold zih at h
  cases hn:zii (strL s) i (ms.map Prod.fst)with
  |inl e=>rw[hn]at h;cases h
  |inr tj=>
   obtain⟨t,k⟩:=tj
   rw[hn]at h
   dsimp only at h
   have hb:=zhd hn (by rw[zaQ];exact hi)
   have hs1:=zak (l:=strL s) (i:=k) hb.2.1
   split at h
   ·cases h
   ·rename_i h58
    have hlt:=zbZ (l:=strL s) (i:=zaW (strL s) k) (by omega)
    have hs2:=zak (l:=strL s) (i:=zaW (strL s) k+1) hlt
    have hmv:=zbh (strL s) d (zaW (strL s) (zaW (strL s) k+1)) left hs2.2
    split at h
    ·cases h
    ·injection h with h
     injection h with h1 h2
     obtain⟨m1,m2,_⟩:=hmv (by omega)
     rw[zaQ]at m2
     rw[←h1]
     exact⟨by omega,m2⟩
 bad:=fun w i left ms p er h hst=>by
  obtain⟨⟨zs,vM,hI⟩,h0,h1,hi,hl,hw⟩:=h
  have hzl:=hI.flat.length
  have hN:=name_any rb s i (256-left) w vM zs hI.rdr (hw.grown hI.gr) hi (by omega) (by omega) hI.row hI.far
  rw[hI.flat.names]at hN
  unfold zih at hst
  cases hn:zii (strL s) i (ms.map Prod.fst)with
  |inl e=>
   obtain⟨p',er'⟩:=e
   rw[hn]at hst hN
   injection hst with hst
   injection hst with e1 e2
   subst e1;subst e2
   exact znY W w rb s _ ms zs vM _ _ _ _ hI hN
  |inr tj=>
   obtain⟨t,j⟩:=tj
   rw[hn]at hst hN
   dsimp only at hst
   have hb:=zhd hn (by rw[zaQ];exact hi)
   have hs1:=zak (l:=strL s) (i:=j) hb.2.1
   have hjs:j≤s.size:=by have:=hb.2.1;rwa [zaQ]at this
   have hks:zaW (strL s) j≤s.size:=by have:=hs1.2;rwa [zaQ]at this
   have hbl: ∀w,Rdr w rb s (j:Nat) (256-left)→Calls Tryz.prog 129 #[.pointer (some ⟨rb,0,none⟩)] w (fun e w'=>e= .returned (.tuple #[])∧zcg w w' rb s (zaW (strL s) j:Nat) (256-left)):=fun w hr=>zbg rb s j _ w hr hjs (by omega)
   by_cases h58:atL (strL s) (zaW (strL s) j)≠58
   ·rw[if_pos h58]at hst
    injection hst with hst
    injection hst with e1 e2
    subst e1;subst e2
    exact znW W w rb s _ ms zs vM _ _ _ _ j (zaW (strL s) j) t hI hN hbl (fun w hr=>zji rb s _ _ 58 w hr hks (by omega) (by decide) h58)
   ·rw[if_neg h58]at hst
    have h58:atL (strL s) (zaW (strL s) j)=58:=by omega
    have hlt:=zbZ (l:=strL s) (i:=zaW (strL s) j) (by omega)
    rw[zaQ]at hlt
    refine memb_bad W w rb s _ (by omega) ms zs vM _ _ _ _ j (zaW (strL s) j) t hI hN hbl (fun w hr=>zfy rb s _ _ 58 w hr (by omega) (by decide) h58) (fun w2 hr2 hg2=> ?_)
    rw[show(8-(d:Int)+1)=9-(d:Int)by omega]
    refine(hv (zaW (strL s) j+1) left w2 hlt h0 h1 hr2 ((hw.grown hI.gr).grown hg2)).mono fun e w' hp=> ?_
    split at hst
    ·rename_i he
     injection hst with hst
     injection hst with e1 e2
     rcases hp with⟨h,_⟩|⟨_,h⟩
     ·exact absurd h he
     ·rw[←e1,←e2];exact h
    ·cases hst
 ok:=fun w i left ms j' left' ms' h hst=>by
  obtain⟨⟨zs,vM,hI⟩,h0,h1,hi,hl,hw⟩:=h
  have hzl:=hI.flat.length
  have hN:=name_any rb s i (256-left) w vM zs hI.rdr (hw.grown hI.gr) hi (by omega) (by omega) hI.row hI.far
  rw[hI.flat.names]at hN
  unfold zih at hst
  cases hn:zii (strL s) i (ms.map Prod.fst)with
  |inl e=>rw[hn]at hst;cases hst
  |inr tj=>
   obtain⟨t,j⟩:=tj
   rw[hn]at hst hN
   dsimp only at hst
   have hb:=zhd hn (by rw[zaQ];exact hi)
   have hs1:=zak (l:=strL s) (i:=j) hb.2.1
   have hjs:j≤s.size:=by have:=hb.2.1;rwa [zaQ]at this
   have hks:zaW (strL s) j≤s.size:=by have:=hs1.2;rwa [zaQ]at this
   have hbl: ∀w,Rdr w rb s (j:Nat) (256-left)→Calls Tryz.prog 129 #[.pointer (some ⟨rb,0,none⟩)] w (fun e w'=>e= .returned (.tuple #[])∧zcg w w' rb s (zaW (strL s) j:Nat) (256-left)):=fun w hr=>zbg rb s j _ w hr hjs (by omega)
   have htb:t.size≤9223372036854775807:=by have:=hb.2.2.1;rw[zaQ]at this;omega
   by_cases h58:atL (strL s) (zaW (strL s) j)≠58
   ·rw[if_pos h58]at hst;cases hst
   ·rw[if_neg h58]at hst
    have h58:atL (strL s) (zaW (strL s) j)=58:=by omega
    have hlt:=zbZ (l:=strL s) (i:=zaW (strL s) j) (by omega)
    have hs2:=zak (l:=strL s) (i:=zaW (strL s) j+1) hlt
    have hmv:=zbh (strL s) d (zaW (strL s) (zaW (strL s) j+1)) left hs2.2
    have hls:=zew (strL s) d (zaW (strL s) (zaW (strL s) j+1)) left
    rw[zaQ]at hlt
    have hsg: ∀w,Rdr w rb s (zaW (strL s) j:Nat) (256-left)→Calls Tryz.prog 188 #[.pointer (some ⟨rb,0,none⟩),.int .u8 58] w (fun e w'=>e= .returned (.tuple #[])∧zcg w w' rb s (zaW (strL s) j+1:Nat) (256-left)):=fun w hr=>zfy rb s _ _ 58 w hr (by omega) (by decide) h58
    split at hst
    ·cases hst
    ·rename_i he
     injection hst with hst
     injection hst with e1 e2
     injection e2 with e2 e3
     obtain⟨m1,m2,m3,m4⟩:=hmv (by omega)
     have hls:=hls (by omega) hs2.2
     have hval: ∀w2,Rdr w2 rb s (zaW (strL s) j+1:Nat) (256-left)→w.grownBy w2 (some rb)→Calls Tryz.prog 128 #[.pointer (some ⟨rb,0,none⟩),.int .i64 (8-(d:Int)+1)] w2 (fun e w'=> ∃v q,e= .returned v∧RepS w' (fun b=>w2.heap.size≤b) (valueL (strL s) d (zaW (strL s) (zaW (strL s) j+1)) left).1 v∧q≤s.size∧zaW (strL s) q=j'∧zcg w2 w' rb s (q:Nat) (256-left')):=fun w2 hr2 hg2=>by
      rw[show(8-(d:Int)+1)=9-(d:Int)by omega]
      refine(hv (zaW (strL s) j+1) left w2 hlt h0 h1 hr2 ((hw.grown hI.gr).grown hg2)).mono fun e w' hp=> ?_
      rcases hp with⟨_,h⟩|⟨h,_⟩
      ·rw[←e1,←e2];exact h
      ·exact absurd h he
     have fin: ∀e w',MembOk W rb s (8-(d:Int)) ms t (valueL (strL s) d (zaW (strL s) (zaW (strL s) j+1)) left).1 j' (256-left') e w'→e= .returned (.tuple #[])∧ ∃q,q≤s.size∧zaW (strL s) q=j'∧OI W rb s (8-(d:Int)) w' q left' ms':=fun e w' hx=>by
      obtain⟨zs',vM',q,he',hq,hskq,hI'⟩:=hx
      refine⟨he',q,hq,hskq,⟨zs',vM',by rw[←e3];exact hI'⟩,by omega,by omega,hq,?_,hw⟩
      rw[←e3,List.length_append,List.length_singleton]
      omega
     rcases own_form6 hI.own with hn'|hsm
     ·exact(memb_ok_Nil W w rb s _ (by omega) ms zs vM (by omega) _ _ _ j (zaW (strL s) j) t htb _ j' hI hn' hN hbl hsg hval).mono fin
     ·exact(memb_ok_Some W w rb s _ (by omega) ms zs vM (by omega) _ _ _ j (zaW (strL s) j) t htb _ j' hI hsm hN hbl hsg hval).mono fin
end Go.Proofs.YtceddodfddlncaaGreatDoor
