
import Derived.Maps.Range
import Derived.Test.YtceddodfddlncaaGreatDoorJb18
import Derived.Test.YtceddodfddlncaaGreatDoorJb24
set_option maxRecDepth 100000
set_option maxHeartbeats 16000000
set_option linter.all false
namespace Go.Proofs.YtceddodfddlncaaGreatDoor
open Go Go.RowKit
theorem item_ok_Some (W wr:World) (rb:Nat) (s:ByteArray) (dep:Int) (hd:0≤dep∧dep≤9) (vs:List J) (xs:List Value) (vL:Value) (hvs:vs.length≤10000) (i n m:Int) (x:J) (p:Nat) (h:LInv W wr rb s dep vs xs vL i n) (hvL: ∃g0 cap0,vL= .slice (some ⟨g0,0,none⟩) vs.length cap0)
  (hv: ∀w,Rdr w rb s i n→wr.grownBy w (some rb)→Calls Tryz.prog 128 #[.pointer (some ⟨rb,0,none⟩),.int .i64 (dep+1)] w (fun e w'=> ∃v q,e= .returned v∧RepS w' (fun b=>w.heap.size≤b) x v∧q≤s.size∧zaW (strL s) q=p∧zcg w w' rb s (q:Nat) m)):
  Calls Tryz.prog 192 #[.pointer (some ⟨W.heap.size+3,0,none⟩),.pointer (some ⟨W.heap.size,0,none⟩),.pointer (some ⟨W.heap.size+1,0,none⟩)] wr (ItemOk W rb s dep vs x p m):=by
 obtain⟨g0,cap0,rfl⟩:=hvL
 have HI:=Lib.hid h
 have HV:=Lib.hid hv
 have hlt:=h.lt
 have hsz:=h.sz
 have k2:wr.cell? ⟨W.heap.size,0,none⟩=some (.pointer (some ⟨rb,0,none⟩)):=h.c2.cell 0
 have k3:wr.cell? ⟨W.heap.size+1,0,none⟩=some (.int .i64 dep):=h.c3.cell 0
 have k5:wr.cell? ⟨W.heap.size+3,3,none⟩=some (.slice (some ⟨g0,0,none⟩) vs.length cap0):=h.c5.cell 3
 have l2:(wr.alloc litZ).cell? ⟨W.heap.size,0,none⟩=some (.pointer (some ⟨rb,0,none⟩)):=(World.grownBy_alloc wr litZ none).cell k2 (by simp)
 have l3:(wr.alloc litZ).cell? ⟨W.heap.size+1,0,none⟩=some (.int .i64 dep):=(World.grownBy_alloc wr litZ none).cell k3 (by simp)
 have l5:(wr.alloc litZ).cell? ⟨W.heap.size+3,3,none⟩=some (.slice (some ⟨g0,0,none⟩) vs.length cap0):=(World.grownBy_alloc wr litZ none).cell k5 (by simp)
 obtain⟨d0,d1⟩:=hd
 have hw:IntKind.i64.wrap (dep+1)=dep+1:=by rw[IntKind.wrap_i64];omega
 have HXL:=Lib.hid h.own.1
 obtain⟨iJ,hJ,hJ0,hJ1,hJ2⟩:=info_parts infoJp
 clear h hv
 go_enter Tryz.func192,Tryz.ntmps192
 refine wp_region_held_drew (S:=fun X=>X.cell? ⟨W.heap.size,0,none⟩=some (.pointer (some ⟨rb,0,none⟩))∧X.cell? ⟨W.heap.size+1,0,none⟩=some (.int .i64 dep)) (by kernel_rfl) ⟨k2,k3⟩ (fun hHeld=> ?_)
 refine wpAnyH_take (i:=0) (v:= ?v0q39) rfl (by kernel_rfl) (by kernel_rfl) (by kernel_rfl) (fun _ _ _ h=>h) (Or.inl ⟨by rfl,?hy0q39⟩) (by assumption) ?rest0q39
 case hy0q39=>(intro w hSw;(try obtain⟨hSa,hSb⟩:=hSw);first|(go_simp;done)|(go_simp;with_reducible rfl))
 try simp only[rgS]
 refine wpAnyH_take (i:=2) (v:= ?v2q40) rfl (by kernel_rfl) (by kernel_rfl) (by kernel_rfl) (fun _ _ _ h=>h) (Or.inl ⟨by rfl,?hy2q40⟩) (by assumption) ?rest2q40
 case hy2q40=>(intro w hSw;(try obtain⟨hSa,hSb⟩:=hSw);first|(go_simp;done)|(go_simp;with_reducible rfl))
 try simp only[rgS]
 refine wpAnyH_take (i:=3) (v:= ?v3q41) rfl (by kernel_rfl) (by kernel_rfl) (by kernel_rfl) (fun _ _ _ h=>h) (Or.inl ⟨by rfl,?hy3q41⟩) (by assumption) ?rest3q41
 case hy3q41=>(intro w hSw;(try obtain⟨hSa,hSb⟩:=hSw);first|(go_simp;done)|(go_simp;with_reducible rfl))
 try simp only[rgS]
 refine wpAnyH_take (i:=4) (v:= ?v4q42) rfl (by kernel_rfl) (by kernel_rfl) (by kernel_rfl) (fun _ _ _ h=>h) (Or.inl ⟨by rfl,?hy4q42⟩) (by assumption) ?rest4q42
 case hy4q42=>(intro w hSw;(try obtain⟨hSa,hSb⟩:=hSw);first|(go_simp;done)|(go_simp;with_reducible rfl))
 try simp only[rgS]
 apply onceP
 ·intro key
  refine wpAnyH_ready (rs:=[1,5,7]) (by kernel_rfl) (by simp) ?_
  refine AllReadyH.cons rfl (fun K hK=> ?_) ?_
  ·skip
   go_simp
   refine hK.out _ _ ⟨k2,k3⟩ (fun hH43=> ?_)
   clear hK K
   try simp only[rgS]
   refine wpAnyH_take (i:=6) (v:= ?v6q44) rfl (by kernel_rfl) (by kernel_rfl) (by kernel_rfl) (fun _ _ _ h=>h) (Or.inl ⟨by rfl,?hy6q44⟩) (by assumption) ?rest6q44
   case hy6q44=>(intro w hSw;(try obtain⟨hSa,hSb⟩:=hSw);first|(go_simp;done)|(go_simp;with_reducible rfl))
   try simp only[rgS]
   refine wpAnyH_ready (rs:=[5,7]) (by kernel_rfl) (by simp) ?_
   refine AllReadyH.cons rfl (fun K hK=> ?_) ?_
   ·skip
    go_simp
    go_at_call 128
    (with_reducible refine(HV.out _ (Blk.drew HI.out.rdr) (zaJ (zaY wr _))).mono ?_)
    rintro e w3 ⟨v,q,rfl,hrep,hq,hsk,hg3,hr3⟩
    obtain⟨vk,A,c9,rfl, -,⟨K9,d9,rfl, -, -⟩, -, -⟩:=hrep.open
    obtain⟨x0,hx0⟩: ∃a,a=x.kind:=⟨_,rfl⟩
    obtain⟨x1,hx1⟩: ∃a,a=x.n:=⟨_,rfl⟩
    obtain⟨x2,hx2⟩: ∃a,a=x.s:=⟨_,rfl⟩
    obtain⟨x3,hx3⟩: ∃a,a=x.l.length:=⟨_,rfl⟩
    obtain⟨x4,hx4⟩: ∃a,a=x.k.length:=⟨_,rfl⟩
    rw[←hx0,←hx1,←hx2,←hx3,←hx4]at hrep⊢
    clear hx0 hx1 hx2 hx3 hx4
    have HG3:=Lib.hid ((zaJ (zaY wr _)).trans hg3)
    have HX:Hid (RepS w3 (fun b=>wr.heap.size≤b) x (.agg #[.int .i64 x0,.int .i64 x1,.string x2,.slice A x3 c9,.slice K9 x4 d9])):=Lib.hid (RepS.keeps (Keeps.refl _ w3) (fun b (h:_≤b) _=>show wr.heap.size≤b from Nat.le_trans (World.grownBy.size (row:=some rb) (zaJ (zaY wr _))) h) _ _ hrep)
    have HQ:=Lib.hid (And.intro hq hsk)
    have HR3:=Lib.hid hr3
    clear hrep hq hsk hg3 hr3
    have m2:(w3).cell? ⟨W.heap.size,0,none⟩=some (.pointer (some ⟨rb,0,none⟩)):=zaZ k2 HG3.out (by intro e;injection e with e<;>omega)
    have m3:(w3).cell? ⟨W.heap.size+1,0,none⟩=some (.int .i64 dep):=zaZ k3 HG3.out (by intro e;injection e with e<;>omega)
    have m5:(w3).cell? ⟨W.heap.size+3,3,none⟩=some (.slice (some ⟨g0,0,none⟩) vs.length cap0):=zaZ k5 HG3.out (by intro e;injection e with e<;>omega)
    refine hK.out _ _ ⟨m2,m3⟩ (fun hH45=> ?_)
    clear hK K
    try simp only[rgS]
    refine wpAnyH_ready (rs:=[7]) (by kernel_rfl) (by simp) ?_
    refine AllReadyH.cons rfl (fun K hK=> ?_) AllReadyH.nil
    go_simp
    have n2:(w3.alloc litZ).cell? ⟨W.heap.size,0,none⟩=some (.pointer (some ⟨rb,0,none⟩)):=zaZ k2 (HG3.out.trans (World.grownBy_alloc w3 litZ (some rb))) (by intro e;injection e with e<;>omega)
    have n3:(w3.alloc litZ).cell? ⟨W.heap.size+1,0,none⟩=some (.int .i64 dep):=zaZ k3 (HG3.out.trans (World.grownBy_alloc w3 litZ (some rb))) (by intro e;injection e with e<;>omega)
    have n5:(w3.alloc litZ).cell? ⟨W.heap.size+3,3,none⟩=some (.slice (some ⟨g0,0,none⟩) vs.length cap0):=zaZ k5 (HG3.out.trans (World.grownBy_alloc w3 litZ (some rb))) (by intro e;injection e with e<;>omega)
    refine hK.out _ _ ⟨n2,n3⟩ (fun hH46=> ?_)
    clear hK K
    try simp only[rgS]
    have HP:Hid (Pack wr (w3.alloc litZ) rb s x q p m (.agg #[.int .i64 x0,.int .i64 x1,.string x2,.slice A x3 c9,.slice K9 x4 d9]) w3.heap.size):=Lib.hid ⟨HG3.out.trans (World.grownBy_alloc w3 litZ _),Blk.grownN HR3.out (World.grownBy_alloc w3 litZ none),RepS.keeps (Keeps.grown (World.grownBy_alloc w3 litZ none) (fun b _ e=>by cases e)) (fun _ h _=>h) _ _ HX.out,heap_alloc_new w3 litZ,HQ.out.1,HQ.out.2⟩
    clear HG3 HR3 HX HQ m2 m3 m5 n2 n3 n5 hH45 hH46
    generalize w3.heap.size=lb at HP⊢
    generalize w3.alloc litZ=w4 at HP⊢
    revert HP;revert lb;revert w4;revert q;revert x0;revert x1;revert x2;revert x3;revert x4;revert A;revert c9;revert K9;revert d9
    exact key.out
   refine AllReadyH.cons rfl (fun K hK=> ?_) AllReadyH.nil
   go_simp
   refine hK.out _ _ ⟨l2,l3⟩ (fun hH47=> ?_)
   clear hK K
   try simp only[rgS]
   refine wpAnyH_ready (rs:=[5]) (by kernel_rfl) (by simp) ?_
   refine AllReadyH.cons rfl (fun K hK=> ?_) AllReadyH.nil
   go_simp
   go_at_call 128
   (with_reducible refine(HV.out _ (Blk.drew (Blk.grownN HI.out.rdr (World.grownBy_alloc wr litZ none))) (zaJ (World.grownBy_alloc wr litZ _))).mono ?_)
   rintro e w3 ⟨v,q,rfl,hrep,hq,hsk,hg3,hr3⟩
   obtain⟨vk,A,c9,rfl, -,⟨K9,d9,rfl, -, -⟩, -, -⟩:=hrep.open
   obtain⟨x0,hx0⟩: ∃a,a=x.kind:=⟨_,rfl⟩
   obtain⟨x1,hx1⟩: ∃a,a=x.n:=⟨_,rfl⟩
   obtain⟨x2,hx2⟩: ∃a,a=x.s:=⟨_,rfl⟩
   obtain⟨x3,hx3⟩: ∃a,a=x.l.length:=⟨_,rfl⟩
   obtain⟨x4,hx4⟩: ∃a,a=x.k.length:=⟨_,rfl⟩
   rw[←hx0,←hx1,←hx2,←hx3,←hx4]at hrep⊢
   clear hx0 hx1 hx2 hx3 hx4
   have HG3:=Lib.hid ((zaJ (World.grownBy_alloc wr litZ _)).trans hg3)
   have HX:Hid (RepS w3 (fun b=>wr.heap.size≤b) x (.agg #[.int .i64 x0,.int .i64 x1,.string x2,.slice A x3 c9,.slice K9 x4 d9])):=Lib.hid (RepS.keeps (Keeps.refl _ w3) (fun b (h:_≤b) _=>show wr.heap.size≤b from Nat.le_trans (World.grownBy.size (row:=some rb) (zaJ (World.grownBy_alloc wr litZ _))) h) _ _ hrep)
   have HQ:=Lib.hid (And.intro hq hsk)
   have HR3:=Lib.hid hr3
   have HLB:Hid (w3.heap[wr.heap.size]? =some litZ):=Lib.hid ((hg3.block wr.heap.size (by simp) (by intro e;injection e with e<;>omega)).trans (heap_alloc_new wr litZ))
   clear hrep hq hsk hg3 hr3
   have m2:(w3).cell? ⟨W.heap.size,0,none⟩=some (.pointer (some ⟨rb,0,none⟩)):=zaZ k2 HG3.out (by intro e;injection e with e<;>omega)
   have m3:(w3).cell? ⟨W.heap.size+1,0,none⟩=some (.int .i64 dep):=zaZ k3 HG3.out (by intro e;injection e with e<;>omega)
   have m5:(w3).cell? ⟨W.heap.size+3,3,none⟩=some (.slice (some ⟨g0,0,none⟩) vs.length cap0):=zaZ k5 HG3.out (by intro e;injection e with e<;>omega)
   refine hK.out _ _ ⟨m2,m3⟩ (fun hH48=> ?_)
   clear hK K
   try simp only[rgS]
   have HP:Hid (Pack wr w3 rb s x q p m (.agg #[.int .i64 x0,.int .i64 x1,.string x2,.slice A x3 c9,.slice K9 x4 d9]) wr.heap.size):=Lib.hid ⟨HG3.out,HR3.out,HX.out,HLB.out,HQ.out.1,HQ.out.2⟩
   clear HG3 HR3 HX HLB HQ m2 m3 m5 hH48
   generalize wr.heap.size=lb at HP⊢
   revert HP;revert lb;revert w3;revert q;revert x0;revert x1;revert x2;revert x3;revert x4;revert A;revert c9;revert K9;revert d9
   exact key.out
  refine AllReadyH.cons rfl (fun K hK=> ?_) ?_
  ·skip
   go_simp
   go_at_call 128
   (with_reducible refine(HV.out _ (Blk.drew HI.out.rdr) (zaJ (zaY wr _))).mono ?_)
   rintro e w3 ⟨v,q,rfl,hrep,hq,hsk,hg3,hr3⟩
   obtain⟨vk,A,c9,rfl, -,⟨K9,d9,rfl, -, -⟩, -, -⟩:=hrep.open
   obtain⟨x0,hx0⟩: ∃a,a=x.kind:=⟨_,rfl⟩
   obtain⟨x1,hx1⟩: ∃a,a=x.n:=⟨_,rfl⟩
   obtain⟨x2,hx2⟩: ∃a,a=x.s:=⟨_,rfl⟩
   obtain⟨x3,hx3⟩: ∃a,a=x.l.length:=⟨_,rfl⟩
   obtain⟨x4,hx4⟩: ∃a,a=x.k.length:=⟨_,rfl⟩
   rw[←hx0,←hx1,←hx2,←hx3,←hx4]at hrep⊢
   clear hx0 hx1 hx2 hx3 hx4
   have HG3:=Lib.hid ((zaJ (zaY wr _)).trans hg3)
   have HX:Hid (RepS w3 (fun b=>wr.heap.size≤b) x (.agg #[.int .i64 x0,.int .i64 x1,.string x2,.slice A x3 c9,.slice K9 x4 d9])):=Lib.hid (RepS.keeps (Keeps.refl _ w3) (fun b (h:_≤b) _=>show wr.heap.size≤b from Nat.le_trans (World.grownBy.size (row:=some rb) (zaJ (zaY wr _))) h) _ _ hrep)
   have HQ:=Lib.hid (And.intro hq hsk)
   have HR3:=Lib.hid hr3
   clear hrep hq hsk hg3 hr3
   have m2:(w3).cell? ⟨W.heap.size,0,none⟩=some (.pointer (some ⟨rb,0,none⟩)):=zaZ k2 HG3.out (by intro e;injection e with e<;>omega)
   have m3:(w3).cell? ⟨W.heap.size+1,0,none⟩=some (.int .i64 dep):=zaZ k3 HG3.out (by intro e;injection e with e<;>omega)
   have m5:(w3).cell? ⟨W.heap.size+3,3,none⟩=some (.slice (some ⟨g0,0,none⟩) vs.length cap0):=zaZ k5 HG3.out (by intro e;injection e with e<;>omega)
   refine hK.out _ _ ⟨m2,m3⟩ (fun hH49=> ?_)
   clear hK K
   try simp only[rgS]
   refine wpAnyH_ready (rs:=[1,7]) (by kernel_rfl) (by simp) ?_
   refine AllReadyH.cons rfl (fun K hK=> ?_) ?_
   ·skip
    go_simp
    refine hK.out _ _ ⟨m2,m3⟩ (fun hH50=> ?_)
    clear hK K
    try simp only[rgS]
    refine wpAnyH_take (i:=6) (v:= ?v6q51) rfl (by kernel_rfl) (by kernel_rfl) (by kernel_rfl) (fun _ _ _ h=>h) (Or.inl ⟨by rfl,?hy6q51⟩) (by assumption) ?rest6q51
    case hy6q51=>(intro w hSw;(try obtain⟨hSa,hSb⟩:=hSw);first|(go_simp;done)|(go_simp;with_reducible rfl))
    try simp only[rgS]
    refine wpAnyH_ready (rs:=[7]) (by kernel_rfl) (by simp) ?_
    refine AllReadyH.cons rfl (fun K hK=> ?_) AllReadyH.nil
    go_simp
    have n2:(w3.alloc litZ).cell? ⟨W.heap.size,0,none⟩=some (.pointer (some ⟨rb,0,none⟩)):=zaZ k2 (HG3.out.trans (World.grownBy_alloc w3 litZ (some rb))) (by intro e;injection e with e<;>omega)
    have n3:(w3.alloc litZ).cell? ⟨W.heap.size+1,0,none⟩=some (.int .i64 dep):=zaZ k3 (HG3.out.trans (World.grownBy_alloc w3 litZ (some rb))) (by intro e;injection e with e<;>omega)
    have n5:(w3.alloc litZ).cell? ⟨W.heap.size+3,3,none⟩=some (.slice (some ⟨g0,0,none⟩) vs.length cap0):=zaZ k5 (HG3.out.trans (World.grownBy_alloc w3 litZ (some rb))) (by intro e;injection e with e<;>omega)
    refine hK.out _ _ ⟨n2,n3⟩ (fun hH52=> ?_)
    clear hK K
    try simp only[rgS]
    have HP:Hid (Pack wr (w3.alloc litZ) rb s x q p m (.agg #[.int .i64 x0,.int .i64 x1,.string x2,.slice A x3 c9,.slice K9 x4 d9]) w3.heap.size):=Lib.hid ⟨HG3.out.trans (World.grownBy_alloc w3 litZ _),Blk.grownN HR3.out (World.grownBy_alloc w3 litZ none),RepS.keeps (Keeps.grown (World.grownBy_alloc w3 litZ none) (fun b _ e=>by cases e)) (fun _ h _=>h) _ _ HX.out,heap_alloc_new w3 litZ,HQ.out.1,HQ.out.2⟩
    clear HG3 HR3 HX HQ m2 m3 m5 n2 n3 n5 hH49 hH50 hH52
    generalize w3.heap.size=lb at HP⊢
    generalize w3.alloc litZ=w4 at HP⊢
    revert HP;revert lb;revert w4;revert q;revert x0;revert x1;revert x2;revert x3;revert x4;revert A;revert c9;revert K9;revert d9
    exact key.out
   refine AllReadyH.cons rfl (fun K hK=> ?_) AllReadyH.nil
   go_simp
   have n2:(w3.alloc litZ).cell? ⟨W.heap.size,0,none⟩=some (.pointer (some ⟨rb,0,none⟩)):=zaZ k2 (HG3.out.trans (World.grownBy_alloc w3 litZ (some rb))) (by intro e;injection e with e<;>omega)
   have n3:(w3.alloc litZ).cell? ⟨W.heap.size+1,0,none⟩=some (.int .i64 dep):=zaZ k3 (HG3.out.trans (World.grownBy_alloc w3 litZ (some rb))) (by intro e;injection e with e<;>omega)
   have n5:(w3.alloc litZ).cell? ⟨W.heap.size+3,3,none⟩=some (.slice (some ⟨g0,0,none⟩) vs.length cap0):=zaZ k5 (HG3.out.trans (World.grownBy_alloc w3 litZ (some rb))) (by intro e;injection e with e<;>omega)
   refine hK.out _ _ ⟨n2,n3⟩ (fun hH53=> ?_)
   clear hK K
   try simp only[rgS]
   refine wpAnyH_ready (rs:=[1]) (by kernel_rfl) (by simp) ?_
   refine AllReadyH.cons rfl (fun K hK=> ?_) AllReadyH.nil
   go_simp
   refine hK.out _ _ ⟨n2,n3⟩ (fun hH54=> ?_)
   clear hK K
   try simp only[rgS]
   refine wpAnyH_take (i:=6) (v:= ?v6q55) rfl (by kernel_rfl) (by kernel_rfl) (by kernel_rfl) (fun _ _ _ h=>h) (Or.inl ⟨by rfl,?hy6q55⟩) (by assumption) ?rest6q55
   case hy6q55=>(intro w hSw;(try obtain⟨hSa,hSb⟩:=hSw);first|(go_simp;done)|(go_simp;with_reducible rfl))
   try simp only[rgS]
   have HP:Hid (Pack wr (w3.alloc litZ) rb s x q p m (.agg #[.int .i64 x0,.int .i64 x1,.string x2,.slice A x3 c9,.slice K9 x4 d9]) w3.heap.size):=Lib.hid ⟨HG3.out.trans (World.grownBy_alloc w3 litZ _),Blk.grownN HR3.out (World.grownBy_alloc w3 litZ none),RepS.keeps (Keeps.grown (World.grownBy_alloc w3 litZ none) (fun b _ e=>by cases e)) (fun _ h _=>h) _ _ HX.out,heap_alloc_new w3 litZ,HQ.out.1,HQ.out.2⟩
   clear HG3 HR3 HX HQ m2 m3 m5 n2 n3 n5 hH49 hH53 hH54
   generalize w3.heap.size=lb at HP⊢
   generalize w3.alloc litZ=w4 at HP⊢
   revert HP;revert lb;revert w4;revert q;revert x0;revert x1;revert x2;revert x3;revert x4;revert A;revert c9;revert K9;revert d9
   exact key.out
  refine AllReadyH.cons rfl (fun K hK=> ?_) AllReadyH.nil
  go_simp
  refine hK.out _ _ ⟨l2,l3⟩ (fun hH56=> ?_)
  clear hK K
  try simp only[rgS]
  refine wpAnyH_ready (rs:=[1,5]) (by kernel_rfl) (by simp) ?_
  refine AllReadyH.cons rfl (fun K hK=> ?_) ?_
  ·skip
   go_simp
   refine hK.out _ _ ⟨l2,l3⟩ (fun hH57=> ?_)
   clear hK K
   try simp only[rgS]
   refine wpAnyH_take (i:=6) (v:= ?v6q58) rfl (by kernel_rfl) (by kernel_rfl) (by kernel_rfl) (fun _ _ _ h=>h) (Or.inl ⟨by rfl,?hy6q58⟩) (by assumption) ?rest6q58
   case hy6q58=>(intro w hSw;(try obtain⟨hSa,hSb⟩:=hSw);first|(go_simp;done)|(go_simp;with_reducible rfl))
   try simp only[rgS]
   refine wpAnyH_ready (rs:=[5]) (by kernel_rfl) (by simp) ?_
   refine AllReadyH.cons rfl (fun K hK=> ?_) AllReadyH.nil
   go_simp
   go_at_call 128
   (with_reducible refine(HV.out _ (Blk.drew (Blk.grownN HI.out.rdr (World.grownBy_alloc wr litZ none))) (zaJ (World.grownBy_alloc wr litZ _))).mono ?_)
   rintro e w3 ⟨v,q,rfl,hrep,hq,hsk,hg3,hr3⟩
   obtain⟨vk,A,c9,rfl, -,⟨K9,d9,rfl, -, -⟩, -, -⟩:=hrep.open
   obtain⟨x0,hx0⟩: ∃a,a=x.kind:=⟨_,rfl⟩
   obtain⟨x1,hx1⟩: ∃a,a=x.n:=⟨_,rfl⟩
   obtain⟨x2,hx2⟩: ∃a,a=x.s:=⟨_,rfl⟩
   obtain⟨x3,hx3⟩: ∃a,a=x.l.length:=⟨_,rfl⟩
   obtain⟨x4,hx4⟩: ∃a,a=x.k.length:=⟨_,rfl⟩
   rw[←hx0,←hx1,←hx2,←hx3,←hx4]at hrep⊢
   clear hx0 hx1 hx2 hx3 hx4
   have HG3:=Lib.hid ((zaJ (World.grownBy_alloc wr litZ _)).trans hg3)
   have HX:Hid (RepS w3 (fun b=>wr.heap.size≤b) x (.agg #[.int .i64 x0,.int .i64 x1,.string x2,.slice A x3 c9,.slice K9 x4 d9])):=Lib.hid (RepS.keeps (Keeps.refl _ w3) (fun b (h:_≤b) _=>show wr.heap.size≤b from Nat.le_trans (World.grownBy.size (row:=some rb) (zaJ (World.grownBy_alloc wr litZ _))) h) _ _ hrep)
   have HQ:=Lib.hid (And.intro hq hsk)
   have HR3:=Lib.hid hr3
   have HLB:Hid (w3.heap[wr.heap.size]? =some litZ):=Lib.hid ((hg3.block wr.heap.size (by simp) (by intro e;injection e with e<;>omega)).trans (heap_alloc_new wr litZ))
   clear hrep hq hsk hg3 hr3
   have m2:(w3).cell? ⟨W.heap.size,0,none⟩=some (.pointer (some ⟨rb,0,none⟩)):=zaZ k2 HG3.out (by intro e;injection e with e<;>omega)
   have m3:(w3).cell? ⟨W.heap.size+1,0,none⟩=some (.int .i64 dep):=zaZ k3 HG3.out (by intro e;injection e with e<;>omega)
   have m5:(w3).cell? ⟨W.heap.size+3,3,none⟩=some (.slice (some ⟨g0,0,none⟩) vs.length cap0):=zaZ k5 HG3.out (by intro e;injection e with e<;>omega)
   refine hK.out _ _ ⟨m2,m3⟩ (fun hH59=> ?_)
   clear hK K
   try simp only[rgS]
   have HP:Hid (Pack wr w3 rb s x q p m (.agg #[.int .i64 x0,.int .i64 x1,.string x2,.slice A x3 c9,.slice K9 x4 d9]) wr.heap.size):=Lib.hid ⟨HG3.out,HR3.out,HX.out,HLB.out,HQ.out.1,HQ.out.2⟩
   clear HG3 HR3 HX HLB HQ m2 m3 m5 hH59
   generalize wr.heap.size=lb at HP⊢
   revert HP;revert lb;revert w3;revert q;revert x0;revert x1;revert x2;revert x3;revert x4;revert A;revert c9;revert K9;revert d9
   exact key.out
  refine AllReadyH.cons rfl (fun K hK=> ?_) AllReadyH.nil
  go_simp
  go_at_call 128
  (with_reducible refine(HV.out _ (Blk.drew (Blk.grownN HI.out.rdr (World.grownBy_alloc wr litZ none))) (zaJ (World.grownBy_alloc wr litZ _))).mono ?_)
  rintro e w3 ⟨v,q,rfl,hrep,hq,hsk,hg3,hr3⟩
  obtain⟨vk,A,c9,rfl, -,⟨K9,d9,rfl, -, -⟩, -, -⟩:=hrep.open
  obtain⟨x0,hx0⟩: ∃a,a=x.kind:=⟨_,rfl⟩
  obtain⟨x1,hx1⟩: ∃a,a=x.n:=⟨_,rfl⟩
  obtain⟨x2,hx2⟩: ∃a,a=x.s:=⟨_,rfl⟩
  obtain⟨x3,hx3⟩: ∃a,a=x.l.length:=⟨_,rfl⟩
  obtain⟨x4,hx4⟩: ∃a,a=x.k.length:=⟨_,rfl⟩
  rw[←hx0,←hx1,←hx2,←hx3,←hx4]at hrep⊢
  clear hx0 hx1 hx2 hx3 hx4
  have HG3:=Lib.hid ((zaJ (World.grownBy_alloc wr litZ _)).trans hg3)
  have HX:Hid (RepS w3 (fun b=>wr.heap.size≤b) x (.agg #[.int .i64 x0,.int .i64 x1,.string x2,.slice A x3 c9,.slice K9 x4 d9])):=Lib.hid (RepS.keeps (Keeps.refl _ w3) (fun b (h:_≤b) _=>show wr.heap.size≤b from Nat.le_trans (World.grownBy.size (row:=some rb) (zaJ (World.grownBy_alloc wr litZ _))) h) _ _ hrep)
  have HQ:=Lib.hid (And.intro hq hsk)
  have HR3:=Lib.hid hr3
  have HLB:Hid (w3.heap[wr.heap.size]? =some litZ):=Lib.hid ((hg3.block wr.heap.size (by simp) (by intro e;injection e with e<;>omega)).trans (heap_alloc_new wr litZ))
  clear hrep hq hsk hg3 hr3
  have m2:(w3).cell? ⟨W.heap.size,0,none⟩=some (.pointer (some ⟨rb,0,none⟩)):=zaZ k2 HG3.out (by intro e;injection e with e<;>omega)
  have m3:(w3).cell? ⟨W.heap.size+1,0,none⟩=some (.int .i64 dep):=zaZ k3 HG3.out (by intro e;injection e with e<;>omega)
  have m5:(w3).cell? ⟨W.heap.size+3,3,none⟩=some (.slice (some ⟨g0,0,none⟩) vs.length cap0):=zaZ k5 HG3.out (by intro e;injection e with e<;>omega)
  refine hK.out _ _ ⟨m2,m3⟩ (fun hH60=> ?_)
  clear hK K
  try simp only[rgS]
  refine wpAnyH_ready (rs:=[1]) (by kernel_rfl) (by simp) ?_
  refine AllReadyH.cons rfl (fun K hK=> ?_) AllReadyH.nil
  go_simp
  refine hK.out _ _ ⟨m2,m3⟩ (fun hH61=> ?_)
  clear hK K
  try simp only[rgS]
  refine wpAnyH_take (i:=6) (v:= ?v6q62) rfl (by kernel_rfl) (by kernel_rfl) (by kernel_rfl) (fun _ _ _ h=>h) (Or.inl ⟨by rfl,?hy6q62⟩) (by assumption) ?rest6q62
  case hy6q62=>(intro w hSw;(try obtain⟨hSa,hSb⟩:=hSw);first|(go_simp;done)|(go_simp;with_reducible rfl))
  try simp only[rgS]
  have HP:Hid (Pack wr w3 rb s x q p m (.agg #[.int .i64 x0,.int .i64 x1,.string x2,.slice A x3 c9,.slice K9 x4 d9]) wr.heap.size):=Lib.hid ⟨HG3.out,HR3.out,HX.out,HLB.out,HQ.out.1,HQ.out.2⟩
  clear HG3 HR3 HX HLB HQ m2 m3 m5 hH60 hH61
  generalize wr.heap.size=lb at HP⊢
  revert HP;revert lb;revert w3;revert q;revert x0;revert x1;revert x2;revert x3;revert x4;revert A;revert c9;revert K9;revert d9
  exact key.out
 intro d9 K9 c9 A x4 x3 x2 x1 x0 q w4 lb HP
 have HM:=Lib.hid (HI.out.moved HP.out.1 HP.out.2.1)
 have hs4:W.heap.size+4≤w4.heap.size:=HM.out.sz
 have m2:(w4).cell? ⟨W.heap.size,0,none⟩=some (.pointer (some ⟨rb,0,none⟩)):=zaZ k2 HP.out.1 (by intro e;injection e with e<;>omega)
 have m3:(w4).cell? ⟨W.heap.size+1,0,none⟩=some (.int .i64 dep):=zaZ k3 HP.out.1 (by intro e;injection e with e<;>omega)
 have m5:(w4).cell? ⟨W.heap.size+3,3,none⟩=some (.slice (some ⟨g0,0,none⟩) vs.length cap0):=zaZ k5 HP.out.1 (by intro e;injection e with e<;>omega)
 have hH0:w4.cell? ⟨W.heap.size,0,none⟩=some (.pointer (some ⟨rb,0,none⟩))∧w4.cell? ⟨W.heap.size+1,0,none⟩=some (.int .i64 dep):=⟨m2,m3⟩
 refine wpAnyH_ready (rs:=[8]) (by kernel_rfl) (by simp) ?_
 refine AllReadyH.cons rfl (fun K hK=> ?_) AllReadyH.nil
 refine step_append_lies _ (by rfl) _ _ _ (by rfl) (W.heap.size+4) 63 iJ (.agg zeros5.toArray) 5 80 Tryz.underlying60 hJ hJ0 hJ1 hJ2 rfl (by omega) (.slice (some ⟨g0,0,none⟩) vs.length cap0) vs.length xs (by rfl) HM.out.own ⟨lb,0,none⟩ 1 1 [.int .i64 0,.int .i64 0,.string ⟨#[]⟩,.slice none 0 0,.slice none 0 0] (by rfl) (by rfl) (World.news_of_block (cs:= #[.int .i64 0,.int .i64 0,.string ⟨#[]⟩,.slice none 0 0,.slice none 0 0]) (t:=63) (fr:=(0,0)) HP.out.2.2.2.1) (by simp[Value.oneCell']) (by omega) (by unfold maxLen;omega) (by omega) (by omega) w4.heap.size rfl ?_
 intro g cap w5 hown hgrow hat hlt
 have hgB:W.heap.size+4≤g:=(hown.lt g rfl).1
 have HADD:=Lib.hid (HI.out.add HP.out.1 HP.out.2.1 HP.out.2.2.1 hgrow hown (hat.imp_right (fun h=>Nat.le_of_eq h.symm)))
 have hxl:=HXL.out
 have e0:w5.cell? ⟨g,vs.length*5,none⟩=some (.int .i64 0):=by have:=hown.cells rfl (vs.length*5) (.int .i64 0) (by rw[List.getElem?_append_right (by omega),hxl,Nat.sub_self];rfl);rwa [Addr.add_mid,Nat.zero_add]at this
 have e1:w5.cell? ⟨g,vs.length*5+1,none⟩=some (.int .i64 0):=by have:=hown.cells rfl (vs.length*5+1) (.int .i64 0) (by rw[List.getElem?_append_right (by omega),hxl,show vs.length*5+1-vs.length*5=1 by omega];rfl);rwa [Addr.add_mid,Nat.zero_add]at this
 have e2:w5.cell? ⟨g,vs.length*5+2,none⟩=some (.string ⟨#[]⟩):=by have:=hown.cells rfl (vs.length*5+2) (.string ⟨#[]⟩) (by rw[List.getElem?_append_right (by omega),hxl,show vs.length*5+2-vs.length*5=2 by omega];rfl);rwa [Addr.add_mid,Nat.zero_add]at this
 have e3:w5.cell? ⟨g,vs.length*5+3,none⟩=some (.slice none 0 0):=by have:=hown.cells rfl (vs.length*5+3) (.slice none 0 0) (by rw[List.getElem?_append_right (by omega),hxl,show vs.length*5+3-vs.length*5=3 by omega];rfl);rwa [Addr.add_mid,Nat.zero_add]at this
 have e4:w5.cell? ⟨g,vs.length*5+4,none⟩=some (.slice none 0 0):=by have:=hown.cells rfl (vs.length*5+4) (.slice none 0 0) (by rw[List.getElem?_append_right (by omega),hxl,show vs.length*5+4-vs.length*5=4 by omega];rfl);rwa [Addr.add_mid,Nat.zero_add]at this
 have hfz: ∀o,w5.frozen? ⟨g,o,none⟩=false:=fun o=>zct hown o
 obtain⟨z0,z1,z2,z3,z4⟩:=And.intro (hfz (vs.length*5)) (And.intro (hfz (vs.length*5+1)) (And.intro (hfz (vs.length*5+2)) (And.intro (hfz (vs.length*5+3)) (hfz (vs.length*5+4)))))
 have hin:(vs.length:Int)<(vs.length:Int)+1:=by omega
 have hno: ∀k,k<W.heap.size+4→some k≠(.slice (some ⟨g0,0,none⟩) vs.length cap0:Value).ownBlock:=fun k hk e=>by have:=(HI.out.own.lt k e.symm).1;omega
 have o2:=zaZ m2 hgrow (hno W.heap.size (by omega))
 have o3:=zaZ m3 hgrow (hno (W.heap.size+1) (by omega))
 have o5:=zaZ m5 hgrow (hno (W.heap.size+3) (by omega))
 have FZ:=Lib.hid (HM.out.c5.grown hgrow (hno _ (by omega)))
 have oz:w5.frozen? ⟨W.heap.size+3,3,none⟩=false:=FZ.out.frozen 3
 have hne5: ¬W.heap.size+3=g:=by omega
 have hne5': ¬g=W.heap.size+3:=by omega
 have OL:Hid (w5.grownBy (((((w5.setCell ⟨g,vs.length*5,none⟩ (.int .i64 x0)).setCell ⟨g,vs.length*5+1,none⟩ (.int .i64 x1)).setCell ⟨g,vs.length*5+2,none⟩ (.string x2)).setCell ⟨g,vs.length*5+3,none⟩ (.slice A x3 c9)).setCell ⟨g,vs.length*5+4,none⟩ (.slice K9 x4 d9)) (some g)):=Lib.hid (znX (c0:= .int .i64 x0) (c1:= .int .i64 x1) (c2:= .string x2) (c3:= .slice A x3 c9) (c4:= .slice K9 x4 d9) hxl hown).2
 clear hown hgrow hat hlt hfz hno hxl
 refine hK.out _ _ ⟨o2,o3⟩ (fun hHeld=> ?_)
 clear hK K
 try simp only[rgS]
 refine wpAnyH_take (i:=9) (v:= ?v9q63) rfl (by kernel_rfl) (by kernel_rfl) (by kernel_rfl) (fun _ _ _ h=>h) (Or.inl ⟨by rfl,?hy9q63⟩) (by assumption) ?rest9q63
 case hy9q63=>(intro w hSw;(try obtain⟨hSa,hSb⟩:=hSw);first|(go_simp;done)|(go_simp;with_reducible rfl))
 try simp only[rgS]
 refine wpAnyH_take (i:=11) (v:= ?v11q64) rfl (by kernel_rfl) (by kernel_rfl) (by kernel_rfl) (fun _ _ _ h=>h) (Or.inl ⟨by rfl,?hy11q64⟩) (by assumption) ?rest11q64
 case hy11q64=>(intro w hSw;(try obtain⟨hSa,hSb⟩:=hSw);first|(go_simp;done)|(go_simp;with_reducible rfl))
 try simp only[rgS]
 refine wpAnyH_ready (rs:=[10,12]) (by kernel_rfl) (by simp) ?_
 refine AllReadyH.cons rfl (fun K hK=> ?_) ?_
 ·skip
  go_simp
  refine hK.out _ _ ⟨zaZ o2 OL.out (by intro e;injection e with e<;>omega),zaZ o3 OL.out (by intro e;injection e with e<;>omega)⟩ (fun hH1=> ?_)
  clear hK K
  obtain⟨w6,hw6⟩: ∃w,w=(((((w5.setCell ⟨g,vs.length*5,none⟩ (.int .i64 x0)).setCell ⟨g,vs.length*5+1,none⟩ (.int .i64 x1)).setCell ⟨g,vs.length*5+2,none⟩ (.string x2)).setCell ⟨g,vs.length*5+3,none⟩ (.slice A x3 c9)).setCell ⟨g,vs.length*5+4,none⟩ (.slice K9 x4 d9)):=⟨_,rfl⟩
  have HW6:=Lib.hid hw6
  have OL6:Hid (w5.grownBy w6 (some g)):=Lib.hid (by rw[hw6];exact OL.out)
  rw[←hw6]at hH1⊢
  clear hw6 e0 e1 e2 e3 e4 z0 z1 z2 z3 z4 oz
  have q2:=zaZ o2 OL6.out (by intro e;injection e with e<;>omega)
  have q3:=zaZ o3 OL6.out (by intro e;injection e with e<;>omega)
  have q5:=zaZ o5 OL6.out (by intro e;injection e with e<;>omega)
  have qz:w6.frozen? ⟨W.heap.size+3,3,none⟩=false:=(Blk.grown FZ.out OL6.out (by intro e;injection e with e<;>omega)).frozen 3
  try simp only[rgS]
  refine wpAnyH_ready (rs:=[12]) (by kernel_rfl) (by simp) ?_
  refine AllReadyH.cons rfl (fun K hK=> ?_) AllReadyH.nil
  go_simp
  refine hK.out _ _ ⟨zaZ q2 (zaV w6 (W.heap.size+3) 3 _) (by intro e;injection e with e<;>omega),zaZ q3 (zaV w6 (W.heap.size+3) 3 _) (by intro e;injection e with e<;>omega)⟩ (fun hH2=> ?_)
  clear hK K
  refine wpAnyH_done (by kernel_rfl) ?_ _
  go_end0
  exact⟨_,_,q,rfl,HP.out.2.2.2.2.1,HP.out.2.2.2.2.2,by rw[HW6.out];exact HADD.out⟩
 refine AllReadyH.cons rfl (fun K hK=> ?_) AllReadyH.nil
 go_simp
 refine hK.out _ _ ⟨zaZ o2 (zaV w5 (W.heap.size+3) 3 _) (by intro e;injection e with e<;>omega),zaZ o3 (zaV w5 (W.heap.size+3) 3 _) (by intro e;injection e with e<;>omega)⟩ (fun hH1=> ?_)
 clear hK K
 obtain⟨w6,hw6⟩: ∃w,w=w5.setCell ⟨W.heap.size+3,3,none⟩ (.slice (some ⟨g,0,none⟩) (vs.length+1) cap):=⟨_,rfl⟩
 have HW6:=Lib.hid hw6
 rw[←hw6]at hH1⊢
 have gb:=zaV w5 (W.heap.size+3) 3 (.slice (some ⟨g,0,none⟩) (vs.length+1) cap)
 rw[←hw6]at gb
 have f0:=zaZ e0 gb (by intro e;injection e with e<;>omega)
 have y0:w6.frozen? ⟨g,vs.length*5,none⟩=false:=by rw[hw6,World.frozen?_setCell];exact z0
 have f1:=zaZ e1 gb (by intro e;injection e with e<;>omega)
 have y1:w6.frozen? ⟨g,vs.length*5+1,none⟩=false:=by rw[hw6,World.frozen?_setCell];exact z1
 have f2:=zaZ e2 gb (by intro e;injection e with e<;>omega)
 have y2:w6.frozen? ⟨g,vs.length*5+2,none⟩=false:=by rw[hw6,World.frozen?_setCell];exact z2
 have f3:=zaZ e3 gb (by intro e;injection e with e<;>omega)
 have y3:w6.frozen? ⟨g,vs.length*5+3,none⟩=false:=by rw[hw6,World.frozen?_setCell];exact z3
 have f4:=zaZ e4 gb (by intro e;injection e with e<;>omega)
 have y4:w6.frozen? ⟨g,vs.length*5+4,none⟩=false:=by rw[hw6,World.frozen?_setCell];exact z4
 have q2:=zaZ o2 gb (by intro e;injection e with e<;>omega)
 have q3:=zaZ o3 gb (by intro e;injection e with e<;>omega)
 have O2:=Lib.hid o2
 have O3:=Lib.hid o3
 clear hw6 gb e0 e1 e2 e3 e4 z0 z1 z2 z3 z4 oz o2 o3 o5
 have hst:Hid ((((((w6.setCell ⟨g,vs.length*5,none⟩ (.int .i64 x0)).setCell ⟨g,vs.length*5+1,none⟩ (.int .i64 x1)).setCell ⟨g,vs.length*5+2,none⟩ (.string x2)).setCell ⟨g,vs.length*5+3,none⟩ (.slice A x3 c9)).setCell ⟨g,vs.length*5+4,none⟩ (.slice K9 x4 d9))=(((((w5.setCell ⟨g,vs.length*5,none⟩ (.int .i64 x0)).setCell ⟨g,vs.length*5+1,none⟩ (.int .i64 x1)).setCell ⟨g,vs.length*5+2,none⟩ (.string x2)).setCell ⟨g,vs.length*5+3,none⟩ (.slice A x3 c9)).setCell ⟨g,vs.length*5+4,none⟩ (.slice K9 x4 d9)).setCell ⟨W.heap.size+3,3,none⟩ (.slice (some ⟨g,0,none⟩) (vs.length+1) cap)):=Lib.hid (by rw[HW6.out];exact set_far w5 hne5 _ _ _ _ _ _)
 try simp only[rgS]
 refine wpAnyH_ready (rs:=[10]) (by kernel_rfl) (by simp) ?_
 refine AllReadyH.cons rfl (fun K hK=> ?_) AllReadyH.nil
 go_simp
 refine hK.out _ _ (by rw[hst.out];exact⟨zaZ (zaZ O2.out OL.out (by intro e;injection e with e<;>omega)) (zaV _ (W.heap.size+3) 3 _) (by intro e;injection e with e<;>omega),zaZ (zaZ O3.out OL.out (by intro e;injection e with e<;>omega)) (zaV _ (W.heap.size+3) 3 _) (by intro e;injection e with e<;>omega)⟩) (fun hH2=> ?_)
 clear hK K
 refine wpAnyH_done (by kernel_rfl) ?_ _
 go_end0
 exact⟨_,_,q,rfl,HP.out.2.2.2.2.1,HP.out.2.2.2.2.2,by rw[hst.out];exact HADD.out⟩
def zmo (l:List Int) (d:Nat) (i:Nat) (left:Int) (vs:List J):(Nat×Int)⊕(Nat×Int×List J):=
 if(valueL l d (zaW l i) left).2.2.2≠0 then .inl ((valueL l d (zaW l i) left).2.1,(valueL l d (zaW l i) left).2.2.2)
 else .inr ((valueL l d (zaW l i) left).2.1,(valueL l d (zaW l i) left).2.2.1,vs++[(valueL l d (zaW l i) left).1])
def SameL (l:List Int) (r:(Nat×Int)⊕(Nat×Int×List J)) (v:VR):Prop:=match r with
 | .inl (p,er)=>er≠0∧v.2.1=p∧v.2.2.2=er
 | .inr (j,lf,vs)=>v=(.mk 4 0 ⟨#[]⟩ vs [],zaW l j,lf,0)
theorem goI_many (l:List Int) (d:Nat): ∀(f g i:Nat) (left:Int) (vs:List J),i≤l.length→0≤left→l.length<i+f→l.length<i+g→
  SameL l (goI l 93 (zmo l d) f i left vs) (zfg l (valueL l d) false (zat l (valueL l d) false g false) (zaW l i) left [] vs)
 |0,g,i,left,vs,hi,_,hf,_=>absurd hf (by omega)
 |f+1,0,i,left,vs,hi,_,_,hg=>absurd hg (by omega)
 |f+1,g+1,i,left,vs,hi,hl,hf,hg=>by
  have hsk:=zak hi
  have hmv:=zbh l d (zaW l i) left hsk.2
  rw[goI]
  unfold zfg zfa zmo
  obtain⟨r,hr⟩: ∃r,r=valueL l d (zaW l i) left:=⟨_,rfl⟩
  rw[←hr]at hmv⊢
  rw[if_neg (show ¬(false=true)by decide)]
  by_cases he:r.2.2.2≠0
  ·rw[if_pos he,if_pos he]
   exact⟨he,rfl,rfl⟩
  ·rw[if_neg he,if_neg he]
   obtain⟨h1,h2,h3,h4⟩:=hmv (by omega)
   show SameL l (if atL l r.2.1=44 then _ else if atL l r.2.1=93 then _ else _) _
   rw[if_neg (show ¬(false=true)by decide),if_neg (show ¬(false=true)by decide)]
   by_cases h44:atL l r.2.1=44
   ·rw[if_pos h44,if_neg (fun h=>h.1 h44)]
    have hlt:=zbZ (l:=l) (i:=r.2.1) (by omega)
    rw[zat,if_neg (by rw[if_neg (show ¬(false=true)by decide)];omega),if_neg (by decide),if_neg (fun h=>h h44)]
    exact goI_many l d f g (r.2.1+1) r.2.2.1 (vs++[r.1]) hlt h3 (by omega) (by omega)
   ·rw[if_neg h44]
    by_cases h93:atL l r.2.1=93
    ·rw[if_pos h93,if_neg (fun h=>h.2 h93)]
     rw[zat,if_pos (by rw[if_neg (show ¬(false=true)by decide)];exact h93)]
     rfl
    ·rw[if_neg h93,if_pos ⟨h44,h93⟩]
     exact⟨show(50:Int)≠0 by decide,rfl,rfl⟩
theorem zjf: ∀(n:Nat) (l:List Int) (i:Nat),l.length-i≤n→ ¬isB (atL l (zaW l i))=true
 |n,l,i,hn=>by
  by_cases h:isB (atL l i)=true
  ·have hl:i<l.length:=zbZ (by intro e;rw[e]at h;revert h;decide)
   obtain⟨m,rfl⟩: ∃m,n=m+1:=⟨n-1,by omega⟩
   rw[zjg h]
   exact zjf m l (i+1) (by omega)
  ·rw[zbu h];exact h
theorem many_same (l:List Int) (d i:Nat) (left:Int) (hi:i<l.length) (hl:0≤left) (h91:atL l i=91):
  SameL l (if atL l (zaW l (i+1))=93 then .inr (zaW l (i+1)+1,left,[])else goI l 93 (zmo l d) (l.length+1) (zaW l (i+1)) left []) (zfK l (valueL l d) i left):=by
 have hsk:=zak (l:=l) (i:=i+1) hi
 have hss:zaW l (zaW l (i+1))=zaW l (i+1):=zbu (zjf _ _ _ (Nat.le_refl _))
 unfold zfK
 rw[decide_eq_false (by rw[h91];decide),zat,if_neg (show ¬(false=true)by decide)]
 by_cases h:atL l (zaW l (i+1))=93
 ·rw[if_pos h,if_pos h];rfl
 ·rw[if_neg h,if_neg h,if_pos rfl]
  have:=goI_many l d (l.length+1) l.length (zaW l (i+1)) left [] hsk.2 hl (by omega) (by omega)
  rw[hss]at this
  exact this
theorem zbW {P:Program} {fn:Func} {p:Tmp} {ty:TypeId} (h:fn.results= #[.cell p ty]) (tmps:Array Value) (w:World) (g:Nat) (t:TypeId) (cs:List Value) (de:TypeDesc)
  (hp:tmps.getD p undef= .pointer (some ⟨g,0,none⟩)) (hb:Blk w g t cs)
  (hu:P.underlying ty=some de) (hd:de.isRow=true) (hi:(P.info? ty).map (·.size)=some cs.length):
  (results fn tmps).run P w= .ok (.agg cs.toArray) w:=by
 have hp':tmps[p]?.getD undef= .pointer (some ⟨g,0,none⟩):=by simpa using hp
 have hl:=run_loadVar_row w g t ty cs.toArray (0,0) de hb hu (by cases de<;>first|rfl|cases hd) (by simpa using hi)
 simp only[results,h]
 simp[Sem.run_bind,Result.andThen,hp',asAddr,hl]
theorem zdZ {w:World} {g:Nat} {t:TypeId} {y0 y1 y2 y3 y4:Value} (hb:Blk w g t [y0,y1,y2,y3,y4]) (z0 z1 z2 z3 z4:Value):
  Blk (((((w.setCell ⟨g,0,none⟩ z0).setCell ⟨g,1,none⟩ z1).setCell ⟨g,2,none⟩ z2).setCell ⟨g,3,none⟩ z3).setCell ⟨g,4,none⟩ z4) g t [z0,z1,z2,z3,z4]∧
  w.grownBy (((((w.setCell ⟨g,0,none⟩ z0).setCell ⟨g,1,none⟩ z1).setCell ⟨g,2,none⟩ z2).setCell ⟨g,3,none⟩ z3).setCell ⟨g,4,none⟩ z4) (some g):=
 ⟨((((hb.setCell 0 z0).setCell 1 z1).setCell 2 z2).setCell 3 z3).setCell 4 z4,((((zaV w g 0 z0).trans (zaV _ g 1 z1)).trans (zaV _ g 2 z2)).trans (zaV _ g 3 z3)).trans (zaV _ g 4 z4)⟩
def LI (W:World) (rb:Nat) (s:ByteArray) (dep:Int) (w:World) (i:Nat) (left:Int) (vs:List J):Prop:=
 (∃xs vL,LInv W w rb s dep vs xs vL i (256-left))∧0≤left∧left≤256∧i≤s.size∧(vs.length:Int)+left≤256∧GW W rb
theorem ziv {w:World} {base n:Nat} {e:TypeId} {v:Value} {xs:List Value} (h:w.ownsRow base e 5 v n xs):v= .slice none 0 0∨ ∃g cap,v= .slice (some ⟨g,0,none⟩) n cap:=by
 rcases h.2 with⟨h,_⟩|⟨g,cap,cur,h,_⟩
 ·exact .inl h
 ·exact .inr ⟨g,cap,h⟩
theorem zew (l:List Int) (d i:Nat) (left:Int) (he:(valueL l d i left).2.2.2=0) (hi:i≤l.length):(valueL l d i left).2.2.1<left:=by
 have key: ∀(many:Nat→Int→VR),(∀i left,i<l.length→0≤left→Moves l i left (many i left))→(valF l many i left).2.2.2=0→(valF l many i left).2.2.1<left:=fun many hm he=>by
  unfold valF at he⊢
  by_cases hb:zba (atL l i)=true
  ·rw[if_neg (by rw[hb];simp)]at he⊢
   have hlt:i<l.length:=zbZ (by intro e;rw[e]at hb;revert hb;decide)
   by_cases h1:left-1<0
   ·rw[if_pos h1]at he;exact absurd (show(53:Int)=0 from he) (by decide)
   ·rw[if_neg h1]at he⊢
    have tl: ∀v p,(zdh l (left-1) v p).2.2.1<left:=fun v p=>by
     unfold zdh;split
     ·show left-1<left;omega
     ·show left-1<left;omega
    split
    ·split
     ·show left-1<left;omega
     ·split
      ·show left-1<left;omega
      ·show left-1<left;omega
    ·rename_i hn
     rw[if_neg hn]at he
     split
     ·exact tl _ _
     ·rename_i h2;rw[if_neg h2]at he
      split
      ·exact tl _ _
      ·rename_i h3;rw[if_neg h3]at he
       split
       ·exact tl _ _
       ·rename_i h4;rw[if_neg h4]at he
        split
        ·exact tl _ _
        ·rename_i h5;rw[if_neg h5]at he
         have:=(hm i (left-1) hlt (by omega) he).2.2.2
         omega
  ·rw[if_pos hb]at he;exact absurd (show(50:Int)=0 from he) (by decide)
 cases d with
 |zero=>rw[valueL]at he⊢;exact key _ (fun i left _ _=> .bad (by decide)) he
 |succ d=>
  rw[valueL]at he⊢
  refine key _ (fun i left hi hl=> ?_) he
  unfold zfK
  have s:=zak (l:=l) (i:=i+1) (by omega)
  exact(zeb (fun i left hi _=>zbh l d i left hi) _ _ _ _ _ _ _ s.2 hl).mono (by omega) (Int.le_refl _)
theorem listAsk (W:World) (rb d:Nat) (s:ByteArray) (hs:s.size≤10000) (hd:d≤7) (hv:zfu s rb d):
  ItemAsk s rb 192 #[.pointer (some ⟨W.heap.size+3,0,none⟩),.pointer (some ⟨W.heap.size,0,none⟩),.pointer (some ⟨W.heap.size+1,0,none⟩)] (zmo (strL s) d) (LI W rb s (8-(d:Int))) (fun w'=>W.grownBy w' (some rb)) where
 rdr:=fun w i left vs h=>by obtain⟨⟨xs,vL,hI⟩,_⟩:=h;exact hI.rdr
 left:=fun w i left vs h=>⟨h.2.1,h.2.2.1,h.2.2.2.1⟩
 moved:=fun w w2 i k left vs h hk hg hr=>by
  obtain⟨⟨xs,vL,hI⟩,h0,h1,hi,hl,hw⟩:=h
  exact⟨⟨xs,vL,hI.moved hg hr⟩,h0,h1,hk,hl,hw⟩
 gone:=fun w w2 i left vs h hg=>by
  obtain⟨⟨xs,vL,hI⟩,_⟩:=h
  exact hI.gr.trans hg
 more:=fun i left vs j left' vs' hi h0 h1 h=>by
  have hsk:=zak (l:=strL s) (i:=i) (by rw[zaQ];exact hi)
  have hmv:=zbh (strL s) d (zaW (strL s) i) left hsk.2
  unfold zmo at h
  split at h
  ·cases h
  ·rename_i he
   injection h with h
   injection h with h1 h2
   obtain⟨m1,m2,_⟩:=hmv (by omega)
   rw[zaQ]at m2
   rw[←h1]
   exact⟨by omega,m2⟩
 bad:=fun w i left vs p er h hst=>by
  obtain⟨⟨xs,vL,hI⟩,h0,h1,hi,hl,hw⟩:=h
  have hval: ∀w2,Rdr w2 rb s i (256-left)→w.grownBy w2 (some rb)→Calls Tryz.prog 128 #[.pointer (some ⟨rb,0,none⟩),.int .i64 (8-(d:Int)+1)] w2 (fun e w'=>e= .panicked (flt (p:Nat) er)∧w2.grownBy w' (some rb)):=fun w2 hr2 hg2=>by
   rw[show(8-(d:Int)+1)=9-(d:Int)by omega]
   refine(hv i left w2 hi h0 h1 hr2 ((hw.grown hI.gr).grown hg2)).mono fun e w' hp=> ?_
   unfold zmo at hst
   split at hst
   ·rename_i he
    injection hst with hst
    injection hst with e1 e2
    rcases hp with⟨h,_⟩|⟨_,h⟩
    ·exact absurd h he
    ·rw[←e1,←e2];exact h
   ·cases hst
  rcases ziv hI.own with hn|hsm
  ·exact item_bad_Nil W w rb s _ (by omega) vs xs vL _ _ _ _ hI hn hval
  ·exact zng W w rb s _ (by omega) vs xs vL _ _ _ _ hI hsm hval
 ok:=fun w i left vs j left' vs' h hst=>by
  obtain⟨⟨xs,vL,hI⟩,h0,h1,hi,hl,hw⟩:=h
  have hsk:=zak (l:=strL s) (i:=i) (by rw[zaQ];exact hi)
  have hmv:=zbh (strL s) d (zaW (strL s) i) left hsk.2
  unfold zmo at hst
  split at hst
  ·cases hst
  ·rename_i he
   injection hst with hst
   injection hst with e1 e2
   injection e2 with e2 e3
   obtain⟨m1,m2,m3,m4⟩:=hmv (by omega)
   have hval: ∀w2,Rdr w2 rb s i (256-left)→w.grownBy w2 (some rb)→Calls Tryz.prog 128 #[.pointer (some ⟨rb,0,none⟩),.int .i64 (8-(d:Int)+1)] w2 (fun e w'=> ∃v q,e= .returned v∧RepS w' (fun b=>w2.heap.size≤b) (valueL (strL s) d (zaW (strL s) i) left).1 v∧q≤s.size∧zaW (strL s) q=j∧zcg w2 w' rb s (q:Nat) (256-left')):=fun w2 hr2 hg2=>by
    rw[show(8-(d:Int)+1)=9-(d:Int)by omega]
    refine(hv i left w2 hi h0 h1 hr2 ((hw.grown hI.gr).grown hg2)).mono fun e w' hp=> ?_
    rcases hp with⟨_,h⟩|⟨h,_⟩
    ·rw[←e1,←e2];exact h
    ·exact absurd h he
   have fin: ∀e w',ItemOk W rb s (8-(d:Int)) vs (valueL (strL s) d (zaW (strL s) i) left).1 j (256-left') e w'→e= .returned (.tuple #[])∧ ∃q,q≤s.size∧zaW (strL s) q=j∧LI W rb s (8-(d:Int)) w' q left' vs':=fun e w' hx=>by
    obtain⟨xs',vL',q,he',hq,hskq,hI'⟩:=hx
    refine⟨he',q,hq,hskq,⟨xs',vL',by rw[←e3];exact hI'⟩,by omega,by omega,hq,?_,hw⟩
    rw[←e3,List.length_append,List.length_singleton]
    have hls:=zew (strL s) d (zaW (strL s) i) left (by omega)
    omega
   rcases ziv hI.own with hn|hsm
   ·exact(item_ok_Nil W w rb s _ (by omega) vs xs vL (by omega) _ _ _ _ j hI hn hval).mono fin
   ·exact(item_ok_Some W w rb s _ (by omega) vs xs vL (by omega) _ _ _ _ j hI hsm hval).mono fin
theorem LInv.tells {W w w':World} {rb:Nat} {s:ByteArray} {dep:Int} {vs:List J} {xs:List Value} {vL:Value} {i n:Int} (hI:LInv W w rb s dep vs xs vL i n) (hg:w.grownBy w' (some (W.heap.size+2))) (hv:vs.length≤256):
  RepS w' (fun b=>W.heap.size≤b) (.mk 4 0 ⟨#[]⟩ vs []) (.agg #[.int .i64 4,.int .i64 0,.string ⟨#[]⟩,vL,.slice none 0 0]):=by
 have lL:=fun k hk=>(hI.own.lt k hk).1
 refine RepS.of_rows (S:=fun b=>W.heap.size+4≤b) (base:=W.heap.size+4) (xs:=xs) (hI.own.kept hg ?_) ?_ (World.ownsRow_nil _ _ _ _) (fun b h _=>by replace h:W.heap.size+4≤b:=h;show W.heap.size≤b;omega) (fun b h=>by show W.heap.size≤b;omega) (by decide) (by omega) (by simp) (by simp)
 ·cases hv:vL.ownBlock with
  |none=>exact .inl rfl
  |some g=>exact .inr (fun e=>by injection e with e;have:=lL g hv;omega)
 ·exact hI.flat.keeps (T:=fun b=>W.heap.size+4≤b) ⟨hg.size,fun b h1 h3=>hg.block b h3 (by intro e;injection e with e;have:=h1.1;omega)⟩ (fun b h1 _=>h1.1)
theorem zlw (W:World) (rb:Nat) (s:ByteArray) (dep i n:Int) (hr:Rdr W rb s i n):
  LInv W ((((W.alloc (.cells #[.pointer (some ⟨rb,0,none⟩)] 227)).alloc (.cells #[.int .i64 dep] 3)).alloc (.cells zeros5.toArray 63)).alloc (.cells #[.int .i64 4,.int .i64 0,.string ⟨#[]⟩,.slice none 0 0,.slice none 0 0] 63)) rb s dep [] [] (.slice none 0 0) i n:=by
 have hlt:=hr.lt
 have g1:=World.grownBy_alloc W (.cells #[.pointer (some ⟨rb,0,none⟩)] 227) none
 have g2:=World.grownBy_alloc (W.alloc (.cells #[.pointer (some ⟨rb,0,none⟩)] 227)) (.cells #[.int .i64 dep] 3) none
 have g3:=World.grownBy_alloc ((W.alloc (.cells #[.pointer (some ⟨rb,0,none⟩)] 227)).alloc (.cells #[.int .i64 dep] 3)) (.cells zeros5.toArray 63) none
 have g4:=World.grownBy_alloc (((W.alloc (.cells #[.pointer (some ⟨rb,0,none⟩)] 227)).alloc (.cells #[.int .i64 dep] 3)).alloc (.cells zeros5.toArray 63)) (.cells #[.int .i64 4,.int .i64 0,.string ⟨#[]⟩,.slice none 0 0,.slice none 0 0] 63) none
 refine⟨?_,?_,?_,?_,World.ownsRow_nil _ _ _ _,rfl,((((g1.trans g2).trans g3).trans g4).but _),hlt,by simp,(((Blk.grownN (Blk.grownN (Blk.grownN (Blk.grownN hr g1) g2) g3) g4)))⟩
 ·exact Blk.grownN (Blk.grownN (Blk.grownN (zck W rfl [.pointer (some ⟨rb,0,none⟩)] _) g2) g3) g4
 ·exact Blk.grownN (Blk.grownN (zck _ (by simp) [.int .i64 dep] _) g3) g4
 ·exact Blk.grownN (zck _ (by simp) zeros5 _) g4
 ·exact zck _ (by simp) [.int .i64 4,.int .i64 0,.string ⟨#[]⟩,.slice none 0 0,.slice none 0 0] _
theorem list_any (s:ByteArray) (rb d:Nat) (hs:s.size≤10000) (hd:d≤7) (hv:zfu s rb d) (i:Nat) (left:Int) (w:World) (hi:i<s.size) (h0:0≤left) (h1:left≤256) (hr:Rdr w rb s i (256-left)) (hg:GW w rb) (h91:atL (strL s) i=91):
  Calls Tryz.prog 165 #[.pointer (some ⟨rb,0,none⟩),.int .i64 (8-(d:Int))] w (ValPost w rb s (zfK (strL s) (valueL (strL s) d) i left)):=by
 have HLEN:=Lib.hid (zaQ s)
 have hsame:=many_same (strL s) d i left (by rw[HLEN.out];exact hi) h0 h91
 rw[HLEN.out]at hsame
 obtain⟨M,hM⟩: ∃M,M=zfK (strL s) (valueL (strL s) d) i left:=⟨_,rfl⟩
 rw[←hM]at hsame⊢
 obtain⟨r,hrr⟩: ∃r,r=(if atL (strL s) (zaW (strL s) (i+1))=93 then .inr (zaW (strL s) (i+1)+1,left,[])else goI (strL s) 93 (zmo (strL s) d) (s.size+1) (zaW (strL s) (i+1)) left []:(Nat×Int)⊕(Nat×Int×List J)):=⟨_,rfl⟩
 rw[←hrr]at hsame
 have HSAME:=Lib.hid hsame
 have hLB:=zlw w rb s (8-(d:Int)) i _ hr
 have hit:=items_any s rb 192 #[.pointer (some ⟨w.heap.size+3,0,none⟩),.pointer (some ⟨w.heap.size,0,none⟩),.pointer (some ⟨w.heap.size+1,0,none⟩)] (zmo (strL s) d) _ _ (listAsk w rb d s hs hd hv)
  (enters_of Tryz.func192 (by kernel_rfl) rfl) (8-(d:Int)) 93 (by omega) (by decide) (by decide) i left [] _ ⟨⟨[],.slice none 0 0,hLB⟩,h0,h1,by omega,by simp;omega,hg⟩ hi (by omega)
 rw[←hrr]at hit
 have HIT:=Lib.hid hit
 have HR:=Lib.hid hr
 have hmf: ∀(fn:Fn) (first cap:Array Value) (w:World),(Instr.makeFunc fn first cap).run Tryz.prog w= .ok (.func fn first cap) w:=fun _ _ _ _=>rfl
 clear hsame hM hrr hLB hit hr hg h91 hv
 go_enter Tryz.func165,Tryz.ntmps165
 go_wp2_with fail
 refine HIT.out.mono ?_
 intro e w2 ht
 rcases r with⟨p,er⟩|⟨j,lf,vs⟩
 ·obtain⟨rfl,hgr⟩:=ht
  have HGR:=Lib.hid hgr
  have HS2:Hid (er≠0∧M.2.1=p∧M.2.2.2=er):=Lib.hid HSAME.out
  clear hgr
  go_wp2
  exact⟨rfl,.inr ⟨by rw[HS2.out.2.2];exact HS2.out.1,by rw[HS2.out.2.1,HS2.out.2.2],HGR.out⟩⟩
 ·obtain⟨rfl,⟨xs,vL,hI⟩,l0,l1,hj,hvl,_⟩:=ht
  have HS2:Hid (M=(.mk 4 0 ⟨#[]⟩ vs [],zaW (strL s) j,lf,0)):=Lib.hid HSAME.out
  have HI:=Lib.hid hI
  have hvn:vs.length≤256:=by omega
  obtain⟨a0,a1,a2,a3,a4⟩:w2.cell? ⟨w.heap.size+3,0,none⟩=some (.int .i64 4)∧w2.cell? ⟨w.heap.size+3,1,none⟩=some (.int .i64 0)∧w2.cell? ⟨w.heap.size+3,2,none⟩=some (.string ⟨#[]⟩)∧w2.cell? ⟨w.heap.size+3,3,none⟩=some vL∧w2.cell? ⟨w.heap.size+3,4,none⟩=some (.slice none 0 0):=⟨hI.c5.cell 0,hI.c5.cell 1,hI.c5.cell 2,hI.c5.cell 3,hI.c5.cell 4⟩
  obtain⟨b0,b1,b2,b3,b4⟩:w2.cell? ⟨w.heap.size+2,0,none⟩=some (.int .i64 0)∧w2.cell? ⟨w.heap.size+2,1,none⟩=some (.int .i64 0)∧w2.cell? ⟨w.heap.size+2,2,none⟩=some (.string ⟨#[]⟩)∧w2.cell? ⟨w.heap.size+2,3,none⟩=some (.slice none 0 0)∧w2.cell? ⟨w.heap.size+2,4,none⟩=some (.slice none 0 0):=⟨hI.c4.cell 0,hI.c4.cell 1,hI.c4.cell 2,hI.c4.cell 3,hI.c4.cell 4⟩
  obtain⟨f0,f1,f2,f3,f4⟩:w2.frozen? ⟨w.heap.size+2,0,none⟩=false∧w2.frozen? ⟨w.heap.size+2,1,none⟩=false∧w2.frozen? ⟨w.heap.size+2,2,none⟩=false∧w2.frozen? ⟨w.heap.size+2,3,none⟩=false∧w2.frozen? ⟨w.heap.size+2,4,none⟩=false:=⟨hI.c4.frozen 0,hI.c4.frozen 1,hI.c4.frozen 2,hI.c4.frozen 3,hI.c4.frozen 4⟩
  rcases ziv hI.own with rfl|⟨g,cap,rfl⟩
  ·have hfin:=zdZ hI.c4 (.int .i64 4) (.int .i64 0) (.string ⟨#[]⟩) (.slice none 0 0) (.slice none 0 0)
   have HF:=Lib.hid hfin
   clear hI hfin
   go_wp2
   refine bodyPost_ret (zbW Tryz.results165 _ _ (w.heap.size+2) _ _ _ rfl HF.out.1 Tryz.underlying63 rfl zau) rfl ?_
   exact .inl ⟨by rw[HS2.out],_,j,rfl,by rw[HS2.out];exact HI.out.tells HF.out.2 hvn,hj,by rw[HS2.out],HI.out.gr.andThen HF.out.2 (by intro j hj;injection hj with hj;left;omega),by rw[HS2.out];exact Blk.grown HI.out.rdr HF.out.2 (by intro e;injection e with e;have:=HI.out.lt;omega)⟩
  ·have hfin:=zdZ hI.c4 (.int .i64 4) (.int .i64 0) (.string ⟨#[]⟩) (.slice (some ⟨g,0,none⟩) vs.length cap) (.slice none 0 0)
   have HF:=Lib.hid hfin
   clear hI hfin
   go_wp2
   refine bodyPost_ret (zbW Tryz.results165 _ _ (w.heap.size+2) _ _ _ rfl HF.out.1 Tryz.underlying63 rfl zau) rfl ?_
   exact .inl ⟨by rw[HS2.out],_,j,rfl,by rw[HS2.out];exact HI.out.tells HF.out.2 hvn,hj,by rw[HS2.out],HI.out.gr.andThen HF.out.2 (by intro j hj;injection hj with hj;left;omega),by rw[HS2.out];exact Blk.grown HI.out.rdr HF.out.2 (by intro e;injection e with e;have:=HI.out.lt;omega)⟩
end Go.Proofs.YtceddodfddlncaaGreatDoor
