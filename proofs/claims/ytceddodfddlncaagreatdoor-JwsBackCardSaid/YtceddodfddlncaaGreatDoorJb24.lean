
import Derived.Test.YtceddodfddlncaaGreatDoorJb16
set_option maxRecDepth 100000
set_option maxHeartbeats 16000000
set_option linter.all false
namespace Go.Proofs.YtceddodfddlncaaGreatDoor
open Go Go.RowKit
theorem zng (W wr:World) (rb:Nat) (s:ByteArray) (dep:Int) (hd:0≤dep∧dep≤9) (vs:List J) (xs:List Value) (vL:Value) (i n p er:Int) (h:LInv W wr rb s dep vs xs vL i n) (hvL: ∃g0 cap0,vL= .slice (some ⟨g0,0,none⟩) vs.length cap0)
  (hv: ∀w,Rdr w rb s i n→wr.grownBy w (some rb)→Calls Tryz.prog 128 #[.pointer (some ⟨rb,0,none⟩),.int .i64 (dep+1)] w (fun e w'=>e= .panicked (flt p er)∧w.grownBy w' (some rb))):
  Calls Tryz.prog 192 #[.pointer (some ⟨W.heap.size+3,0,none⟩),.pointer (some ⟨W.heap.size,0,none⟩),.pointer (some ⟨W.heap.size+1,0,none⟩)] wr (fun e w'=>e= .panicked (flt p er)∧W.grownBy w' (some rb)):=by
 obtain⟨g0,cap0,rfl⟩:=hvL
 have HI:=Lib.hid h
 have HV:=Lib.hid hv
 have hlt:=h.lt
 have hsz:=h.sz
 have k2:wr.cell? ⟨W.heap.size,0,none⟩=some (.pointer (some ⟨rb,0,none⟩)):=h.c2.cell 0
 have k3:wr.cell? ⟨W.heap.size+1,0,none⟩=some (.int .i64 dep):=h.c3.cell 0
 have k5:wr.cell? ⟨W.heap.size+3,3,none⟩=some (.slice (some ⟨g0,0,none⟩) vs.length cap0):=h.c5.cell 3
 have l2:(wr.alloc litZ).cell? ⟨W.heap.size,0,none⟩=some (.pointer (some ⟨rb,0,none⟩)):=(World.grownBy_alloc wr litZ none).cell k2 (by simp)
 have l3:(wr.alloc litZ).cell? ⟨W.heap.size+1,0,none⟩=some (.int .i64 dep):=(World.grownBy_alloc wr litZ none).cell k3 (by simp)
 have l5:(wr.alloc litZ).cell? ⟨W.heap.size+3,3,none⟩=some (.slice (some ⟨g0,0,none⟩) vs.length cap0):=(World.grownBy_alloc wr litZ none).cell k5 (by simp)
 obtain⟨d0,d1⟩:=hd
 have hw:IntKind.i64.wrap (dep+1)=dep+1:=by rw[IntKind.wrap_i64];omega
 clear h hv
 go_enter Tryz.func192,Tryz.ntmps192
 refine wp_region_held_drew (S:=fun X=>X.cell? ⟨W.heap.size,0,none⟩=some (.pointer (some ⟨rb,0,none⟩))∧X.cell? ⟨W.heap.size+1,0,none⟩=some (.int .i64 dep)) (by kernel_rfl) ⟨k2,k3⟩ (fun hHeld=> ?_)
 refine wpAnyH_take (i:=0) (v:= ?v0q33) rfl (by kernel_rfl) (by kernel_rfl) (by kernel_rfl) (fun _ _ _ h=>h) (Or.inl ⟨by rfl,?hy0q33⟩) (by assumption) ?rest0q33
 case hy0q33=>(intro w hSw;(try obtain⟨hSa,hSb⟩:=hSw);first|(go_simp;done)|(go_simp;with_reducible rfl))
 try simp only[rgS]
 refine wpAnyH_take (i:=2) (v:= ?v2q34) rfl (by kernel_rfl) (by kernel_rfl) (by kernel_rfl) (fun _ _ _ h=>h) (Or.inl ⟨by rfl,?hy2q34⟩) (by assumption) ?rest2q34
 case hy2q34=>(intro w hSw;(try obtain⟨hSa,hSb⟩:=hSw);first|(go_simp;done)|(go_simp;with_reducible rfl))
 try simp only[rgS]
 refine wpAnyH_take (i:=3) (v:= ?v3q35) rfl (by kernel_rfl) (by kernel_rfl) (by kernel_rfl) (fun _ _ _ h=>h) (Or.inl ⟨by rfl,?hy3q35⟩) (by assumption) ?rest3q35
 case hy3q35=>(intro w hSw;(try obtain⟨hSa,hSb⟩:=hSw);first|(go_simp;done)|(go_simp;with_reducible rfl))
 try simp only[rgS]
 refine wpAnyH_take (i:=4) (v:= ?v4q36) rfl (by kernel_rfl) (by kernel_rfl) (by kernel_rfl) (fun _ _ _ h=>h) (Or.inl ⟨by rfl,?hy4q36⟩) (by assumption) ?rest4q36
 case hy4q36=>(intro w hSw;(try obtain⟨hSa,hSb⟩:=hSw);first|(go_simp;done)|(go_simp;with_reducible rfl))
 try simp only[rgS]
 refine wpAnyH_ready (rs:=[1,5,7]) (by kernel_rfl) (by simp) ?_
 refine AllReadyH.cons rfl (fun K hK=> ?_) ?_
 ·skip
  go_simp
  refine hK.out _ _ ⟨k2,k3⟩ (fun hHeld=> ?_)
  clear hK K
  try simp only[rgS]
  refine wpAnyH_take (i:=6) (v:= ?v6q37) rfl (by kernel_rfl) (by kernel_rfl) (by kernel_rfl) (fun _ _ _ h=>h) (Or.inl ⟨by rfl,?hy6q37⟩) (by assumption) ?rest6q37
  case hy6q37=>(intro w hSw;(try obtain⟨hSa,hSb⟩:=hSw);first|(go_simp;done)|(go_simp;with_reducible rfl))
  try simp only[rgS]
  refine wpAnyH_ready (rs:=[5,7]) (by kernel_rfl) (by simp) ?_
  refine AllReadyH.cons rfl (fun K hK=> ?_) ?_
  ·skip
   go_simp
   go_at_call 128
   (with_reducible refine(HV.out _ (Blk.drew HI.out.rdr) (zaJ (zaY wr _))).mono ?_)
   rintro e w3 ⟨rfl,hg3⟩
   exact⟨rfl,rfl,HI.out.gr.trans ((zaJ (zaY wr _)).trans hg3)⟩
  refine AllReadyH.cons rfl (fun K hK=> ?_) AllReadyH.nil
  go_simp
  refine hK.out _ _ ⟨l2,l3⟩ (fun hHeld=> ?_)
  clear hK K
  try simp only[rgS]
  refine wpAnyH_ready (rs:=[5]) (by kernel_rfl) (by simp) ?_
  refine AllReadyH.cons rfl (fun K hK=> ?_) AllReadyH.nil
  go_simp
  go_at_call 128
  (with_reducible refine(HV.out _ (Blk.drew (Blk.grownN HI.out.rdr (World.grownBy_alloc wr litZ none))) (zaJ (World.grownBy_alloc wr litZ _))).mono ?_)
  rintro e w3 ⟨rfl,hg3⟩
  exact⟨rfl,rfl,HI.out.gr.trans ((zaJ (World.grownBy_alloc wr litZ _)).trans hg3)⟩
 refine AllReadyH.cons rfl (fun K hK=> ?_) ?_
 ·skip
  go_simp
  go_at_call 128
  (with_reducible refine(HV.out _ (Blk.drew HI.out.rdr) (zaJ (zaY wr _))).mono ?_)
  rintro e w3 ⟨rfl,hg3⟩
  exact⟨rfl,rfl,HI.out.gr.trans ((zaJ (zaY wr _)).trans hg3)⟩
 refine AllReadyH.cons rfl (fun K hK=> ?_) AllReadyH.nil
 go_simp
 refine hK.out _ _ ⟨l2,l3⟩ (fun hHeld=> ?_)
 clear hK K
 try simp only[rgS]
 refine wpAnyH_ready (rs:=[1,5]) (by kernel_rfl) (by simp) ?_
 refine AllReadyH.cons rfl (fun K hK=> ?_) ?_
 ·skip
  go_simp
  refine hK.out _ _ ⟨l2,l3⟩ (fun hHeld=> ?_)
  clear hK K
  try simp only[rgS]
  refine wpAnyH_take (i:=6) (v:= ?v6q38) rfl (by kernel_rfl) (by kernel_rfl) (by kernel_rfl) (fun _ _ _ h=>h) (Or.inl ⟨by rfl,?hy6q38⟩) (by assumption) ?rest6q38
  case hy6q38=>(intro w hSw;(try obtain⟨hSa,hSb⟩:=hSw);first|(go_simp;done)|(go_simp;with_reducible rfl))
  try simp only[rgS]
  refine wpAnyH_ready (rs:=[5]) (by kernel_rfl) (by simp) ?_
  refine AllReadyH.cons rfl (fun K hK=> ?_) AllReadyH.nil
  go_simp
  go_at_call 128
  (with_reducible refine(HV.out _ (Blk.drew (Blk.grownN HI.out.rdr (World.grownBy_alloc wr litZ none))) (zaJ (World.grownBy_alloc wr litZ _))).mono ?_)
  rintro e w3 ⟨rfl,hg3⟩
  exact⟨rfl,rfl,HI.out.gr.trans ((zaJ (World.grownBy_alloc wr litZ _)).trans hg3)⟩
 refine AllReadyH.cons rfl (fun K hK=> ?_) AllReadyH.nil
 go_simp
 go_at_call 128
 (with_reducible refine(HV.out _ (Blk.drew (Blk.grownN HI.out.rdr (World.grownBy_alloc wr litZ none))) (zaJ (World.grownBy_alloc wr litZ _))).mono ?_)
 rintro e w3 ⟨rfl,hg3⟩
 exact⟨rfl,rfl,HI.out.gr.trans ((zaJ (World.grownBy_alloc wr litZ _)).trans hg3)⟩
theorem item_ok_Nil (W wr:World) (rb:Nat) (s:ByteArray) (dep:Int) (hd:0≤dep∧dep≤9) (vs:List J) (xs:List Value) (vL:Value) (hvs:vs.length≤10000) (i n m:Int) (x:J) (p:Nat) (h:LInv W wr rb s dep vs xs vL i n) (hvL:vL= .slice none 0 0)
  (hv: ∀w,Rdr w rb s i n→wr.grownBy w (some rb)→Calls Tryz.prog 128 #[.pointer (some ⟨rb,0,none⟩),.int .i64 (dep+1)] w (fun e w'=> ∃v q,e= .returned v∧RepS w' (fun b=>w.heap.size≤b) x v∧q≤s.size∧zaW (strL s) q=p∧zcg w w' rb s (q:Nat) m)):
  Calls Tryz.prog 192 #[.pointer (some ⟨W.heap.size+3,0,none⟩),.pointer (some ⟨W.heap.size,0,none⟩),.pointer (some ⟨W.heap.size+1,0,none⟩)] wr (ItemOk W rb s dep vs x p m):=by
 subst hvL
 obtain rfl:vs=[]:=by rcases h.own.2 with⟨_,h0⟩|⟨_,_,_,h0,_⟩<;>first|exact List.eq_nil_of_length_eq_zero h0|(simp at h0)
 obtain rfl:xs=[]:=List.eq_nil_of_length_eq_zero (by have:=h.own.1;simpa using this)
 have HI:=Lib.hid h
 have HV:=Lib.hid hv
 have hlt:=h.lt
 have hsz:=h.sz
 have k2:wr.cell? ⟨W.heap.size,0,none⟩=some (.pointer (some ⟨rb,0,none⟩)):=h.c2.cell 0
 have k3:wr.cell? ⟨W.heap.size+1,0,none⟩=some (.int .i64 dep):=h.c3.cell 0
 have k5:wr.cell? ⟨W.heap.size+3,3,none⟩=some (.slice none 0 0):=h.c5.cell 3
 have l2:(wr.alloc litZ).cell? ⟨W.heap.size,0,none⟩=some (.pointer (some ⟨rb,0,none⟩)):=(World.grownBy_alloc wr litZ none).cell k2 (by simp)
 have l3:(wr.alloc litZ).cell? ⟨W.heap.size+1,0,none⟩=some (.int .i64 dep):=(World.grownBy_alloc wr litZ none).cell k3 (by simp)
 have l5:(wr.alloc litZ).cell? ⟨W.heap.size+3,3,none⟩=some (.slice none 0 0):=(World.grownBy_alloc wr litZ none).cell k5 (by simp)
 obtain⟨d0,d1⟩:=hd
 have hw:IntKind.i64.wrap (dep+1)=dep+1:=by rw[IntKind.wrap_i64];omega
 have HXL:=Lib.hid h.own.1
 obtain⟨iJ,hJ,hJ0,hJ1,hJ2⟩:=info_parts infoJp
 clear h hv
 go_enter Tryz.func192,Tryz.ntmps192
 refine wp_region_held_drew (S:=fun X=>X.cell? ⟨W.heap.size,0,none⟩=some (.pointer (some ⟨rb,0,none⟩))∧X.cell? ⟨W.heap.size+1,0,none⟩=some (.int .i64 dep)) (by kernel_rfl) ⟨k2,k3⟩ (fun hHeld=> ?_)
 refine wpAnyH_take (i:=0) (v:= ?v0q7) rfl (by kernel_rfl) (by kernel_rfl) (by kernel_rfl) (fun _ _ _ h=>h) (Or.inl ⟨by rfl,?hy0q7⟩) (by assumption) ?rest0q7
 case hy0q7=>(intro w hSw;(try obtain⟨hSa,hSb⟩:=hSw);first|(go_simp;done)|(go_simp;with_reducible rfl))
 try simp only[rgS]
 refine wpAnyH_take (i:=2) (v:= ?v2q8) rfl (by kernel_rfl) (by kernel_rfl) (by kernel_rfl) (fun _ _ _ h=>h) (Or.inl ⟨by rfl,?hy2q8⟩) (by assumption) ?rest2q8
 case hy2q8=>(intro w hSw;(try obtain⟨hSa,hSb⟩:=hSw);first|(go_simp;done)|(go_simp;with_reducible rfl))
 try simp only[rgS]
 refine wpAnyH_take (i:=3) (v:= ?v3q9) rfl (by kernel_rfl) (by kernel_rfl) (by kernel_rfl) (fun _ _ _ h=>h) (Or.inl ⟨by rfl,?hy3q9⟩) (by assumption) ?rest3q9
 case hy3q9=>(intro w hSw;(try obtain⟨hSa,hSb⟩:=hSw);first|(go_simp;done)|(go_simp;with_reducible rfl))
 try simp only[rgS]
 refine wpAnyH_take (i:=4) (v:= ?v4q10) rfl (by kernel_rfl) (by kernel_rfl) (by kernel_rfl) (fun _ _ _ h=>h) (Or.inl ⟨by rfl,?hy4q10⟩) (by assumption) ?rest4q10
 case hy4q10=>(intro w hSw;(try obtain⟨hSa,hSb⟩:=hSw);first|(go_simp;done)|(go_simp;with_reducible rfl))
 try simp only[rgS]
 apply onceP
 ·intro key
  refine wpAnyH_ready (rs:=[1,5,7]) (by kernel_rfl) (by simp) ?_
  refine AllReadyH.cons rfl (fun K hK=> ?_) ?_
  ·skip
   go_simp
   refine hK.out _ _ ⟨k2,k3⟩ (fun hH11=> ?_)
   clear hK K
   try simp only[rgS]
   refine wpAnyH_take (i:=6) (v:= ?v6q12) rfl (by kernel_rfl) (by kernel_rfl) (by kernel_rfl) (fun _ _ _ h=>h) (Or.inl ⟨by rfl,?hy6q12⟩) (by assumption) ?rest6q12
   case hy6q12=>(intro w hSw;(try obtain⟨hSa,hSb⟩:=hSw);first|(go_simp;done)|(go_simp;with_reducible rfl))
   try simp only[rgS]
   refine wpAnyH_ready (rs:=[5,7]) (by kernel_rfl) (by simp) ?_
   refine AllReadyH.cons rfl (fun K hK=> ?_) ?_
   ·skip
    go_simp
    go_at_call 128
    (with_reducible refine(HV.out _ (Blk.drew HI.out.rdr) (zaJ (zaY wr _))).mono ?_)
    rintro e w3 ⟨v,q,rfl,hrep,hq,hsk,hg3,hr3⟩
    obtain⟨vk,A,c9,rfl, -,⟨K9,d9,rfl, -, -⟩, -, -⟩:=hrep.open
    obtain⟨x0,hx0⟩: ∃a,a=x.kind:=⟨_,rfl⟩
    obtain⟨x1,hx1⟩: ∃a,a=x.n:=⟨_,rfl⟩
    obtain⟨x2,hx2⟩: ∃a,a=x.s:=⟨_,rfl⟩
    obtain⟨x3,hx3⟩: ∃a,a=x.l.length:=⟨_,rfl⟩
    obtain⟨x4,hx4⟩: ∃a,a=x.k.length:=⟨_,rfl⟩
    rw[←hx0,←hx1,←hx2,←hx3,←hx4]at hrep⊢
    clear hx0 hx1 hx2 hx3 hx4
    have HG3:=Lib.hid ((zaJ (zaY wr _)).trans hg3)
    have HX:Hid (RepS w3 (fun b=>wr.heap.size≤b) x (.agg #[.int .i64 x0,.int .i64 x1,.string x2,.slice A x3 c9,.slice K9 x4 d9])):=Lib.hid (RepS.keeps (Keeps.refl _ w3) (fun b (h:_≤b) _=>show wr.heap.size≤b from Nat.le_trans (World.grownBy.size (row:=some rb) (zaJ (zaY wr _))) h) _ _ hrep)
    have HQ:=Lib.hid (And.intro hq hsk)
    have HR3:=Lib.hid hr3
    clear hrep hq hsk hg3 hr3
    have m2:(w3).cell? ⟨W.heap.size,0,none⟩=some (.pointer (some ⟨rb,0,none⟩)):=zaZ k2 HG3.out (by intro e;injection e with e<;>omega)
    have m3:(w3).cell? ⟨W.heap.size+1,0,none⟩=some (.int .i64 dep):=zaZ k3 HG3.out (by intro e;injection e with e<;>omega)
    have m5:(w3).cell? ⟨W.heap.size+3,3,none⟩=some (.slice none 0 0):=zaZ k5 HG3.out (by intro e;injection e with e<;>omega)
    refine hK.out _ _ ⟨m2,m3⟩ (fun hH13=> ?_)
    clear hK K
    try simp only[rgS]
    refine wpAnyH_ready (rs:=[7]) (by kernel_rfl) (by simp) ?_
    refine AllReadyH.cons rfl (fun K hK=> ?_) AllReadyH.nil
    go_simp
    have n2:(w3.alloc litZ).cell? ⟨W.heap.size,0,none⟩=some (.pointer (some ⟨rb,0,none⟩)):=zaZ k2 (HG3.out.trans (World.grownBy_alloc w3 litZ (some rb))) (by intro e;injection e with e<;>omega)
    have n3:(w3.alloc litZ).cell? ⟨W.heap.size+1,0,none⟩=some (.int .i64 dep):=zaZ k3 (HG3.out.trans (World.grownBy_alloc w3 litZ (some rb))) (by intro e;injection e with e<;>omega)
    have n5:(w3.alloc litZ).cell? ⟨W.heap.size+3,3,none⟩=some (.slice none 0 0):=zaZ k5 (HG3.out.trans (World.grownBy_alloc w3 litZ (some rb))) (by intro e;injection e with e<;>omega)
    refine hK.out _ _ ⟨n2,n3⟩ (fun hH14=> ?_)
    clear hK K
    try simp only[rgS]
    have HP:Hid (Pack wr (w3.alloc litZ) rb s x q p m (.agg #[.int .i64 x0,.int .i64 x1,.string x2,.slice A x3 c9,.slice K9 x4 d9]) w3.heap.size):=Lib.hid ⟨HG3.out.trans (World.grownBy_alloc w3 litZ _),Blk.grownN HR3.out (World.grownBy_alloc w3 litZ none),RepS.keeps (Keeps.grown (World.grownBy_alloc w3 litZ none) (fun b _ e=>by cases e)) (fun _ h _=>h) _ _ HX.out,heap_alloc_new w3 litZ,HQ.out.1,HQ.out.2⟩
    clear HG3 HR3 HX HQ m2 m3 m5 n2 n3 n5 hH13 hH14
    generalize w3.heap.size=lb at HP⊢
    generalize w3.alloc litZ=w4 at HP⊢
    revert HP;revert lb;revert w4;revert q;revert x0;revert x1;revert x2;revert x3;revert x4;revert A;revert c9;revert K9;revert d9
    exact key.out
   refine AllReadyH.cons rfl (fun K hK=> ?_) AllReadyH.nil
   go_simp
   refine hK.out _ _ ⟨l2,l3⟩ (fun hH15=> ?_)
   clear hK K
   try simp only[rgS]
   refine wpAnyH_ready (rs:=[5]) (by kernel_rfl) (by simp) ?_
   refine AllReadyH.cons rfl (fun K hK=> ?_) AllReadyH.nil
   go_simp
   go_at_call 128
   (with_reducible refine(HV.out _ (Blk.drew (Blk.grownN HI.out.rdr (World.grownBy_alloc wr litZ none))) (zaJ (World.grownBy_alloc wr litZ _))).mono ?_)
   rintro e w3 ⟨v,q,rfl,hrep,hq,hsk,hg3,hr3⟩
   obtain⟨vk,A,c9,rfl, -,⟨K9,d9,rfl, -, -⟩, -, -⟩:=hrep.open
   obtain⟨x0,hx0⟩: ∃a,a=x.kind:=⟨_,rfl⟩
   obtain⟨x1,hx1⟩: ∃a,a=x.n:=⟨_,rfl⟩
   obtain⟨x2,hx2⟩: ∃a,a=x.s:=⟨_,rfl⟩
   obtain⟨x3,hx3⟩: ∃a,a=x.l.length:=⟨_,rfl⟩
   obtain⟨x4,hx4⟩: ∃a,a=x.k.length:=⟨_,rfl⟩
   rw[←hx0,←hx1,←hx2,←hx3,←hx4]at hrep⊢
   clear hx0 hx1 hx2 hx3 hx4
   have HG3:=Lib.hid ((zaJ (World.grownBy_alloc wr litZ _)).trans hg3)
   have HX:Hid (RepS w3 (fun b=>wr.heap.size≤b) x (.agg #[.int .i64 x0,.int .i64 x1,.string x2,.slice A x3 c9,.slice K9 x4 d9])):=Lib.hid (RepS.keeps (Keeps.refl _ w3) (fun b (h:_≤b) _=>show wr.heap.size≤b from Nat.le_trans (World.grownBy.size (row:=some rb) (zaJ (World.grownBy_alloc wr litZ _))) h) _ _ hrep)
   have HQ:=Lib.hid (And.intro hq hsk)
   have HR3:=Lib.hid hr3
   have HLB:Hid (w3.heap[wr.heap.size]? =some litZ):=Lib.hid ((hg3.block wr.heap.size (by simp) (by intro e;injection e with e<;>omega)).trans (heap_alloc_new wr litZ))
   clear hrep hq hsk hg3 hr3
   have m2:(w3).cell? ⟨W.heap.size,0,none⟩=some (.pointer (some ⟨rb,0,none⟩)):=zaZ k2 HG3.out (by intro e;injection e with e<;>omega)
   have m3:(w3).cell? ⟨W.heap.size+1,0,none⟩=some (.int .i64 dep):=zaZ k3 HG3.out (by intro e;injection e with e<;>omega)
   have m5:(w3).cell? ⟨W.heap.size+3,3,none⟩=some (.slice none 0 0):=zaZ k5 HG3.out (by intro e;injection e with e<;>omega)
   refine hK.out _ _ ⟨m2,m3⟩ (fun hH16=> ?_)
   clear hK K
   try simp only[rgS]
   have HP:Hid (Pack wr w3 rb s x q p m (.agg #[.int .i64 x0,.int .i64 x1,.string x2,.slice A x3 c9,.slice K9 x4 d9]) wr.heap.size):=Lib.hid ⟨HG3.out,HR3.out,HX.out,HLB.out,HQ.out.1,HQ.out.2⟩
   clear HG3 HR3 HX HLB HQ m2 m3 m5 hH16
   generalize wr.heap.size=lb at HP⊢
   revert HP;revert lb;revert w3;revert q;revert x0;revert x1;revert x2;revert x3;revert x4;revert A;revert c9;revert K9;revert d9
   exact key.out
  refine AllReadyH.cons rfl (fun K hK=> ?_) ?_
  ·skip
   go_simp
   go_at_call 128
   (with_reducible refine(HV.out _ (Blk.drew HI.out.rdr) (zaJ (zaY wr _))).mono ?_)
   rintro e w3 ⟨v,q,rfl,hrep,hq,hsk,hg3,hr3⟩
   obtain⟨vk,A,c9,rfl, -,⟨K9,d9,rfl, -, -⟩, -, -⟩:=hrep.open
   obtain⟨x0,hx0⟩: ∃a,a=x.kind:=⟨_,rfl⟩
   obtain⟨x1,hx1⟩: ∃a,a=x.n:=⟨_,rfl⟩
   obtain⟨x2,hx2⟩: ∃a,a=x.s:=⟨_,rfl⟩
   obtain⟨x3,hx3⟩: ∃a,a=x.l.length:=⟨_,rfl⟩
   obtain⟨x4,hx4⟩: ∃a,a=x.k.length:=⟨_,rfl⟩
   rw[←hx0,←hx1,←hx2,←hx3,←hx4]at hrep⊢
   clear hx0 hx1 hx2 hx3 hx4
   have HG3:=Lib.hid ((zaJ (zaY wr _)).trans hg3)
   have HX:Hid (RepS w3 (fun b=>wr.heap.size≤b) x (.agg #[.int .i64 x0,.int .i64 x1,.string x2,.slice A x3 c9,.slice K9 x4 d9])):=Lib.hid (RepS.keeps (Keeps.refl _ w3) (fun b (h:_≤b) _=>show wr.heap.size≤b from Nat.le_trans (World.grownBy.size (row:=some rb) (zaJ (zaY wr _))) h) _ _ hrep)
   have HQ:=Lib.hid (And.intro hq hsk)
   have HR3:=Lib.hid hr3
   clear hrep hq hsk hg3 hr3
   have m2:(w3).cell? ⟨W.heap.size,0,none⟩=some (.pointer (some ⟨rb,0,none⟩)):=zaZ k2 HG3.out (by intro e;injection e with e<;>omega)
   have m3:(w3).cell? ⟨W.heap.size+1,0,none⟩=some (.int .i64 dep):=zaZ k3 HG3.out (by intro e;injection e with e<;>omega)
   have m5:(w3).cell? ⟨W.heap.size+3,3,none⟩=some (.slice none 0 0):=zaZ k5 HG3.out (by intro e;injection e with e<;>omega)
   refine hK.out _ _ ⟨m2,m3⟩ (fun hH17=> ?_)
   clear hK K
   try simp only[rgS]
   refine wpAnyH_ready (rs:=[1,7]) (by kernel_rfl) (by simp) ?_
   refine AllReadyH.cons rfl (fun K hK=> ?_) ?_
   ·skip
    go_simp
    refine hK.out _ _ ⟨m2,m3⟩ (fun hH18=> ?_)
    clear hK K
    try simp only[rgS]
    refine wpAnyH_take (i:=6) (v:= ?v6q19) rfl (by kernel_rfl) (by kernel_rfl) (by kernel_rfl) (fun _ _ _ h=>h) (Or.inl ⟨by rfl,?hy6q19⟩) (by assumption) ?rest6q19
    case hy6q19=>(intro w hSw;(try obtain⟨hSa,hSb⟩:=hSw);first|(go_simp;done)|(go_simp;with_reducible rfl))
    try simp only[rgS]
    refine wpAnyH_ready (rs:=[7]) (by kernel_rfl) (by simp) ?_
    refine AllReadyH.cons rfl (fun K hK=> ?_) AllReadyH.nil
    go_simp
    have n2:(w3.alloc litZ).cell? ⟨W.heap.size,0,none⟩=some (.pointer (some ⟨rb,0,none⟩)):=zaZ k2 (HG3.out.trans (World.grownBy_alloc w3 litZ (some rb))) (by intro e;injection e with e<;>omega)
    have n3:(w3.alloc litZ).cell? ⟨W.heap.size+1,0,none⟩=some (.int .i64 dep):=zaZ k3 (HG3.out.trans (World.grownBy_alloc w3 litZ (some rb))) (by intro e;injection e with e<;>omega)
    have n5:(w3.alloc litZ).cell? ⟨W.heap.size+3,3,none⟩=some (.slice none 0 0):=zaZ k5 (HG3.out.trans (World.grownBy_alloc w3 litZ (some rb))) (by intro e;injection e with e<;>omega)
    refine hK.out _ _ ⟨n2,n3⟩ (fun hH20=> ?_)
    clear hK K
    try simp only[rgS]
    have HP:Hid (Pack wr (w3.alloc litZ) rb s x q p m (.agg #[.int .i64 x0,.int .i64 x1,.string x2,.slice A x3 c9,.slice K9 x4 d9]) w3.heap.size):=Lib.hid ⟨HG3.out.trans (World.grownBy_alloc w3 litZ _),Blk.grownN HR3.out (World.grownBy_alloc w3 litZ none),RepS.keeps (Keeps.grown (World.grownBy_alloc w3 litZ none) (fun b _ e=>by cases e)) (fun _ h _=>h) _ _ HX.out,heap_alloc_new w3 litZ,HQ.out.1,HQ.out.2⟩
    clear HG3 HR3 HX HQ m2 m3 m5 n2 n3 n5 hH17 hH18 hH20
    generalize w3.heap.size=lb at HP⊢
    generalize w3.alloc litZ=w4 at HP⊢
    revert HP;revert lb;revert w4;revert q;revert x0;revert x1;revert x2;revert x3;revert x4;revert A;revert c9;revert K9;revert d9
    exact key.out
   refine AllReadyH.cons rfl (fun K hK=> ?_) AllReadyH.nil
   go_simp
   have n2:(w3.alloc litZ).cell? ⟨W.heap.size,0,none⟩=some (.pointer (some ⟨rb,0,none⟩)):=zaZ k2 (HG3.out.trans (World.grownBy_alloc w3 litZ (some rb))) (by intro e;injection e with e<;>omega)
   have n3:(w3.alloc litZ).cell? ⟨W.heap.size+1,0,none⟩=some (.int .i64 dep):=zaZ k3 (HG3.out.trans (World.grownBy_alloc w3 litZ (some rb))) (by intro e;injection e with e<;>omega)
   have n5:(w3.alloc litZ).cell? ⟨W.heap.size+3,3,none⟩=some (.slice none 0 0):=zaZ k5 (HG3.out.trans (World.grownBy_alloc w3 litZ (some rb))) (by intro e;injection e with e<;>omega)
   refine hK.out _ _ ⟨n2,n3⟩ (fun hH21=> ?_)
   clear hK K
   try simp only[rgS]
   refine wpAnyH_ready (rs:=[1]) (by kernel_rfl) (by simp) ?_
   refine AllReadyH.cons rfl (fun K hK=> ?_) AllReadyH.nil
   go_simp
   refine hK.out _ _ ⟨n2,n3⟩ (fun hH22=> ?_)
   clear hK K
   try simp only[rgS]
   refine wpAnyH_take (i:=6) (v:= ?v6q23) rfl (by kernel_rfl) (by kernel_rfl) (by kernel_rfl) (fun _ _ _ h=>h) (Or.inl ⟨by rfl,?hy6q23⟩) (by assumption) ?rest6q23
   case hy6q23=>(intro w hSw;(try obtain⟨hSa,hSb⟩:=hSw);first|(go_simp;done)|(go_simp;with_reducible rfl))
   try simp only[rgS]
   have HP:Hid (Pack wr (w3.alloc litZ) rb s x q p m (.agg #[.int .i64 x0,.int .i64 x1,.string x2,.slice A x3 c9,.slice K9 x4 d9]) w3.heap.size):=Lib.hid ⟨HG3.out.trans (World.grownBy_alloc w3 litZ _),Blk.grownN HR3.out (World.grownBy_alloc w3 litZ none),RepS.keeps (Keeps.grown (World.grownBy_alloc w3 litZ none) (fun b _ e=>by cases e)) (fun _ h _=>h) _ _ HX.out,heap_alloc_new w3 litZ,HQ.out.1,HQ.out.2⟩
   clear HG3 HR3 HX HQ m2 m3 m5 n2 n3 n5 hH17 hH21 hH22
   generalize w3.heap.size=lb at HP⊢
   generalize w3.alloc litZ=w4 at HP⊢
   revert HP;revert lb;revert w4;revert q;revert x0;revert x1;revert x2;revert x3;revert x4;revert A;revert c9;revert K9;revert d9
   exact key.out
  refine AllReadyH.cons rfl (fun K hK=> ?_) AllReadyH.nil
  go_simp
  refine hK.out _ _ ⟨l2,l3⟩ (fun hH24=> ?_)
  clear hK K
  try simp only[rgS]
  refine wpAnyH_ready (rs:=[1,5]) (by kernel_rfl) (by simp) ?_
  refine AllReadyH.cons rfl (fun K hK=> ?_) ?_
  ·skip
   go_simp
   refine hK.out _ _ ⟨l2,l3⟩ (fun hH25=> ?_)
   clear hK K
   try simp only[rgS]
   refine wpAnyH_take (i:=6) (v:= ?v6q26) rfl (by kernel_rfl) (by kernel_rfl) (by kernel_rfl) (fun _ _ _ h=>h) (Or.inl ⟨by rfl,?hy6q26⟩) (by assumption) ?rest6q26
   case hy6q26=>(intro w hSw;(try obtain⟨hSa,hSb⟩:=hSw);first|(go_simp;done)|(go_simp;with_reducible rfl))
   try simp only[rgS]
   refine wpAnyH_ready (rs:=[5]) (by kernel_rfl) (by simp) ?_
   refine AllReadyH.cons rfl (fun K hK=> ?_) AllReadyH.nil
   go_simp
   go_at_call 128
   (with_reducible refine(HV.out _ (Blk.drew (Blk.grownN HI.out.rdr (World.grownBy_alloc wr litZ none))) (zaJ (World.grownBy_alloc wr litZ _))).mono ?_)
   rintro e w3 ⟨v,q,rfl,hrep,hq,hsk,hg3,hr3⟩
   obtain⟨vk,A,c9,rfl, -,⟨K9,d9,rfl, -, -⟩, -, -⟩:=hrep.open
   obtain⟨x0,hx0⟩: ∃a,a=x.kind:=⟨_,rfl⟩
   obtain⟨x1,hx1⟩: ∃a,a=x.n:=⟨_,rfl⟩
   obtain⟨x2,hx2⟩: ∃a,a=x.s:=⟨_,rfl⟩
   obtain⟨x3,hx3⟩: ∃a,a=x.l.length:=⟨_,rfl⟩
   obtain⟨x4,hx4⟩: ∃a,a=x.k.length:=⟨_,rfl⟩
   rw[←hx0,←hx1,←hx2,←hx3,←hx4]at hrep⊢
   clear hx0 hx1 hx2 hx3 hx4
   have HG3:=Lib.hid ((zaJ (World.grownBy_alloc wr litZ _)).trans hg3)
   have HX:Hid (RepS w3 (fun b=>wr.heap.size≤b) x (.agg #[.int .i64 x0,.int .i64 x1,.string x2,.slice A x3 c9,.slice K9 x4 d9])):=Lib.hid (RepS.keeps (Keeps.refl _ w3) (fun b (h:_≤b) _=>show wr.heap.size≤b from Nat.le_trans (World.grownBy.size (row:=some rb) (zaJ (World.grownBy_alloc wr litZ _))) h) _ _ hrep)
   have HQ:=Lib.hid (And.intro hq hsk)
   have HR3:=Lib.hid hr3
   have HLB:Hid (w3.heap[wr.heap.size]? =some litZ):=Lib.hid ((hg3.block wr.heap.size (by simp) (by intro e;injection e with e<;>omega)).trans (heap_alloc_new wr litZ))
   clear hrep hq hsk hg3 hr3
   have m2:(w3).cell? ⟨W.heap.size,0,none⟩=some (.pointer (some ⟨rb,0,none⟩)):=zaZ k2 HG3.out (by intro e;injection e with e<;>omega)
   have m3:(w3).cell? ⟨W.heap.size+1,0,none⟩=some (.int .i64 dep):=zaZ k3 HG3.out (by intro e;injection e with e<;>omega)
   have m5:(w3).cell? ⟨W.heap.size+3,3,none⟩=some (.slice none 0 0):=zaZ k5 HG3.out (by intro e;injection e with e<;>omega)
   refine hK.out _ _ ⟨m2,m3⟩ (fun hH27=> ?_)
   clear hK K
   try simp only[rgS]
   have HP:Hid (Pack wr w3 rb s x q p m (.agg #[.int .i64 x0,.int .i64 x1,.string x2,.slice A x3 c9,.slice K9 x4 d9]) wr.heap.size):=Lib.hid ⟨HG3.out,HR3.out,HX.out,HLB.out,HQ.out.1,HQ.out.2⟩
   clear HG3 HR3 HX HLB HQ m2 m3 m5 hH27
   generalize wr.heap.size=lb at HP⊢
   revert HP;revert lb;revert w3;revert q;revert x0;revert x1;revert x2;revert x3;revert x4;revert A;revert c9;revert K9;revert d9
   exact key.out
  refine AllReadyH.cons rfl (fun K hK=> ?_) AllReadyH.nil
  go_simp
  go_at_call 128
  (with_reducible refine(HV.out _ (Blk.drew (Blk.grownN HI.out.rdr (World.grownBy_alloc wr litZ none))) (zaJ (World.grownBy_alloc wr litZ _))).mono ?_)
  rintro e w3 ⟨v,q,rfl,hrep,hq,hsk,hg3,hr3⟩
  obtain⟨vk,A,c9,rfl, -,⟨K9,d9,rfl, -, -⟩, -, -⟩:=hrep.open
  obtain⟨x0,hx0⟩: ∃a,a=x.kind:=⟨_,rfl⟩
  obtain⟨x1,hx1⟩: ∃a,a=x.n:=⟨_,rfl⟩
  obtain⟨x2,hx2⟩: ∃a,a=x.s:=⟨_,rfl⟩
  obtain⟨x3,hx3⟩: ∃a,a=x.l.length:=⟨_,rfl⟩
  obtain⟨x4,hx4⟩: ∃a,a=x.k.length:=⟨_,rfl⟩
  rw[←hx0,←hx1,←hx2,←hx3,←hx4]at hrep⊢
  clear hx0 hx1 hx2 hx3 hx4
  have HG3:=Lib.hid ((zaJ (World.grownBy_alloc wr litZ _)).trans hg3)
  have HX:Hid (RepS w3 (fun b=>wr.heap.size≤b) x (.agg #[.int .i64 x0,.int .i64 x1,.string x2,.slice A x3 c9,.slice K9 x4 d9])):=Lib.hid (RepS.keeps (Keeps.refl _ w3) (fun b (h:_≤b) _=>show wr.heap.size≤b from Nat.le_trans (World.grownBy.size (row:=some rb) (zaJ (World.grownBy_alloc wr litZ _))) h) _ _ hrep)
  have HQ:=Lib.hid (And.intro hq hsk)
  have HR3:=Lib.hid hr3
  have HLB:Hid (w3.heap[wr.heap.size]? =some litZ):=Lib.hid ((hg3.block wr.heap.size (by simp) (by intro e;injection e with e<;>omega)).trans (heap_alloc_new wr litZ))
  clear hrep hq hsk hg3 hr3
  have m2:(w3).cell? ⟨W.heap.size,0,none⟩=some (.pointer (some ⟨rb,0,none⟩)):=zaZ k2 HG3.out (by intro e;injection e with e<;>omega)
  have m3:(w3).cell? ⟨W.heap.size+1,0,none⟩=some (.int .i64 dep):=zaZ k3 HG3.out (by intro e;injection e with e<;>omega)
  have m5:(w3).cell? ⟨W.heap.size+3,3,none⟩=some (.slice none 0 0):=zaZ k5 HG3.out (by intro e;injection e with e<;>omega)
  refine hK.out _ _ ⟨m2,m3⟩ (fun hH28=> ?_)
  clear hK K
  try simp only[rgS]
  refine wpAnyH_ready (rs:=[1]) (by kernel_rfl) (by simp) ?_
  refine AllReadyH.cons rfl (fun K hK=> ?_) AllReadyH.nil
  go_simp
  refine hK.out _ _ ⟨m2,m3⟩ (fun hH29=> ?_)
  clear hK K
  try simp only[rgS]
  refine wpAnyH_take (i:=6) (v:= ?v6q30) rfl (by kernel_rfl) (by kernel_rfl) (by kernel_rfl) (fun _ _ _ h=>h) (Or.inl ⟨by rfl,?hy6q30⟩) (by assumption) ?rest6q30
  case hy6q30=>(intro w hSw;(try obtain⟨hSa,hSb⟩:=hSw);first|(go_simp;done)|(go_simp;with_reducible rfl))
  try simp only[rgS]
  have HP:Hid (Pack wr w3 rb s x q p m (.agg #[.int .i64 x0,.int .i64 x1,.string x2,.slice A x3 c9,.slice K9 x4 d9]) wr.heap.size):=Lib.hid ⟨HG3.out,HR3.out,HX.out,HLB.out,HQ.out.1,HQ.out.2⟩
  clear HG3 HR3 HX HLB HQ m2 m3 m5 hH28 hH29
  generalize wr.heap.size=lb at HP⊢
  revert HP;revert lb;revert w3;revert q;revert x0;revert x1;revert x2;revert x3;revert x4;revert A;revert c9;revert K9;revert d9
  exact key.out
 intro d9 K9 c9 A x4 x3 x2 x1 x0 q w4 lb HP
 have HM:=Lib.hid (HI.out.moved HP.out.1 HP.out.2.1)
 have hs4:W.heap.size+4≤w4.heap.size:=HM.out.sz
 have m2:(w4).cell? ⟨W.heap.size,0,none⟩=some (.pointer (some ⟨rb,0,none⟩)):=zaZ k2 HP.out.1 (by intro e;injection e with e<;>omega)
 have m3:(w4).cell? ⟨W.heap.size+1,0,none⟩=some (.int .i64 dep):=zaZ k3 HP.out.1 (by intro e;injection e with e<;>omega)
 have m5:(w4).cell? ⟨W.heap.size+3,3,none⟩=some (.slice none 0 0):=zaZ k5 HP.out.1 (by intro e;injection e with e<;>omega)
 have hH0:w4.cell? ⟨W.heap.size,0,none⟩=some (.pointer (some ⟨rb,0,none⟩))∧w4.cell? ⟨W.heap.size+1,0,none⟩=some (.int .i64 dep):=⟨m2,m3⟩
 refine wpAnyH_ready (rs:=[8]) (by kernel_rfl) (by simp) ?_
 refine AllReadyH.cons rfl (fun K hK=> ?_) AllReadyH.nil
 refine step_append_lies _ (by rfl) _ _ _ (by rfl) (W.heap.size+4) 63 iJ (.agg zeros5.toArray) 5 80 Tryz.underlying60 hJ hJ0 hJ1 hJ2 rfl (by omega) (.slice none 0 0) 0 [] (by rfl) HM.out.own ⟨lb,0,none⟩ 1 1 [.int .i64 0,.int .i64 0,.string ⟨#[]⟩,.slice none 0 0,.slice none 0 0] (by rfl) (by rfl) (World.news_of_block (cs:= #[.int .i64 0,.int .i64 0,.string ⟨#[]⟩,.slice none 0 0,.slice none 0 0]) (t:=63) (fr:=(0,0)) HP.out.2.2.2.1) (by simp[Value.oneCell']) (by omega) (by unfold maxLen;omega) (by omega) (by omega) w4.heap.size rfl ?_
 intro g cap w5 hown hgrow hat hlt
 have hgB:W.heap.size+4≤g:=(hown.lt g rfl).1
 have HADD:=Lib.hid (HI.out.add HP.out.1 HP.out.2.1 HP.out.2.2.1 hgrow hown (hat.imp_right (fun h=>Nat.le_of_eq h.symm)))
 have e0:w5.cell? ⟨g,0,none⟩=some (.int .i64 0):=by have:=hown.cells rfl (0) (.int .i64 0) (rfl);rwa [Addr.add_mid,Nat.zero_add]at this
 have e1:w5.cell? ⟨g,1,none⟩=some (.int .i64 0):=by have:=hown.cells rfl (1) (.int .i64 0) (rfl);rwa [Addr.add_mid,Nat.zero_add]at this
 have e2:w5.cell? ⟨g,2,none⟩=some (.string ⟨#[]⟩):=by have:=hown.cells rfl (2) (.string ⟨#[]⟩) (rfl);rwa [Addr.add_mid,Nat.zero_add]at this
 have e3:w5.cell? ⟨g,3,none⟩=some (.slice none 0 0):=by have:=hown.cells rfl (3) (.slice none 0 0) (rfl);rwa [Addr.add_mid,Nat.zero_add]at this
 have e4:w5.cell? ⟨g,4,none⟩=some (.slice none 0 0):=by have:=hown.cells rfl (4) (.slice none 0 0) (rfl);rwa [Addr.add_mid,Nat.zero_add]at this
 have hfz: ∀o,w5.frozen? ⟨g,o,none⟩=false:=fun o=>zct hown o
 obtain⟨z0,z1,z2,z3,z4⟩:=And.intro (hfz (0)) (And.intro (hfz (1)) (And.intro (hfz (2)) (And.intro (hfz (3)) (hfz (4)))))
 have hin:(0:Int)<(0:Int)+1:=by omega
 have hno: ∀k,k<W.heap.size+4→some k≠(.slice none 0 0:Value).ownBlock:=fun k hk e=>by have:=(HI.out.own.lt k e.symm).1;omega
 have o2:=zaZ m2 hgrow (hno W.heap.size (by omega))
 have o3:=zaZ m3 hgrow (hno (W.heap.size+1) (by omega))
 have o5:=zaZ m5 hgrow (hno (W.heap.size+3) (by omega))
 have FZ:=Lib.hid (HM.out.c5.grown hgrow (hno _ (by omega)))
 have oz:w5.frozen? ⟨W.heap.size+3,3,none⟩=false:=FZ.out.frozen 3
 have hne5: ¬W.heap.size+3=g:=by omega
 have hne5': ¬g=W.heap.size+3:=by omega
 have OL:Hid (w5.grownBy (((((w5.setCell ⟨g,0,none⟩ (.int .i64 x0)).setCell ⟨g,1,none⟩ (.int .i64 x1)).setCell ⟨g,2,none⟩ (.string x2)).setCell ⟨g,3,none⟩ (.slice A x3 c9)).setCell ⟨g,4,none⟩ (.slice K9 x4 d9)) (some g)):=Lib.hid (znX (c0:= .int .i64 x0) (c1:= .int .i64 x1) (c2:= .string x2) (c3:= .slice A x3 c9) (c4:= .slice K9 x4 d9) (n:=0) (xs:=[]) rfl hown).2
 clear hown hgrow hat hlt hfz hno
 refine hK.out _ _ ⟨o2,o3⟩ (fun hHeld=> ?_)
 clear hK K
 try simp only[rgS]
 refine wpAnyH_take (i:=9) (v:= ?v9q31) rfl (by kernel_rfl) (by kernel_rfl) (by kernel_rfl) (fun _ _ _ h=>h) (Or.inl ⟨by rfl,?hy9q31⟩) (by assumption) ?rest9q31
 case hy9q31=>(intro w hSw;(try obtain⟨hSa,hSb⟩:=hSw);first|(go_simp;done)|(go_simp;with_reducible rfl))
 try simp only[rgS]
 refine wpAnyH_take (i:=11) (v:= ?v11q32) rfl (by kernel_rfl) (by kernel_rfl) (by kernel_rfl) (fun _ _ _ h=>h) (Or.inl ⟨by rfl,?hy11q32⟩) (by assumption) ?rest11q32
 case hy11q32=>(intro w hSw;(try obtain⟨hSa,hSb⟩:=hSw);first|(go_simp;done)|(go_simp;with_reducible rfl))
 try simp only[rgS]
 refine wpAnyH_ready (rs:=[10,12]) (by kernel_rfl) (by simp) ?_
 refine AllReadyH.cons rfl (fun K hK=> ?_) ?_
 ·skip
  go_simp
  refine hK.out _ _ ⟨zaZ o2 OL.out (by intro e;injection e with e<;>omega),zaZ o3 OL.out (by intro e;injection e with e<;>omega)⟩ (fun hH1=> ?_)
  clear hK K
  obtain⟨w6,hw6⟩: ∃w,w=(((((w5.setCell ⟨g,0,none⟩ (.int .i64 x0)).setCell ⟨g,1,none⟩ (.int .i64 x1)).setCell ⟨g,2,none⟩ (.string x2)).setCell ⟨g,3,none⟩ (.slice A x3 c9)).setCell ⟨g,4,none⟩ (.slice K9 x4 d9)):=⟨_,rfl⟩
  have HW6:=Lib.hid hw6
  have OL6:Hid (w5.grownBy w6 (some g)):=Lib.hid (by rw[hw6];exact OL.out)
  rw[←hw6]at hH1⊢
  clear hw6 e0 e1 e2 e3 e4 z0 z1 z2 z3 z4 oz
  have q2:=zaZ o2 OL6.out (by intro e;injection e with e<;>omega)
  have q3:=zaZ o3 OL6.out (by intro e;injection e with e<;>omega)
  have q5:=zaZ o5 OL6.out (by intro e;injection e with e<;>omega)
  have qz:w6.frozen? ⟨W.heap.size+3,3,none⟩=false:=(Blk.grown FZ.out OL6.out (by intro e;injection e with e<;>omega)).frozen 3
  try simp only[rgS]
  refine wpAnyH_ready (rs:=[12]) (by kernel_rfl) (by simp) ?_
  refine AllReadyH.cons rfl (fun K hK=> ?_) AllReadyH.nil
  go_simp
  refine hK.out _ _ ⟨zaZ q2 (zaV w6 (W.heap.size+3) 3 _) (by intro e;injection e with e<;>omega),zaZ q3 (zaV w6 (W.heap.size+3) 3 _) (by intro e;injection e with e<;>omega)⟩ (fun hH2=> ?_)
  clear hK K
  refine wpAnyH_done (by kernel_rfl) ?_ _
  go_end0
  exact⟨_,_,q,rfl,HP.out.2.2.2.2.1,HP.out.2.2.2.2.2,by rw[HW6.out];exact HADD.out⟩
 refine AllReadyH.cons rfl (fun K hK=> ?_) AllReadyH.nil
 go_simp
 refine hK.out _ _ ⟨zaZ o2 (zaV w5 (W.heap.size+3) 3 _) (by intro e;injection e with e<;>omega),zaZ o3 (zaV w5 (W.heap.size+3) 3 _) (by intro e;injection e with e<;>omega)⟩ (fun hH1=> ?_)
 clear hK K
 obtain⟨w6,hw6⟩: ∃w,w=w5.setCell ⟨W.heap.size+3,3,none⟩ (.slice (some ⟨g,0,none⟩) 1 cap):=⟨_,rfl⟩
 have HW6:=Lib.hid hw6
 rw[←hw6]at hH1⊢
 have gb:=zaV w5 (W.heap.size+3) 3 (.slice (some ⟨g,0,none⟩) 1 cap)
 rw[←hw6]at gb
 have f0:=zaZ e0 gb (by intro e;injection e with e<;>omega)
 have y0:w6.frozen? ⟨g,0,none⟩=false:=by rw[hw6,World.frozen?_setCell];exact z0
 have f1:=zaZ e1 gb (by intro e;injection e with e<;>omega)
 have y1:w6.frozen? ⟨g,1,none⟩=false:=by rw[hw6,World.frozen?_setCell];exact z1
 have f2:=zaZ e2 gb (by intro e;injection e with e<;>omega)
 have y2:w6.frozen? ⟨g,2,none⟩=false:=by rw[hw6,World.frozen?_setCell];exact z2
 have f3:=zaZ e3 gb (by intro e;injection e with e<;>omega)
 have y3:w6.frozen? ⟨g,3,none⟩=false:=by rw[hw6,World.frozen?_setCell];exact z3
 have f4:=zaZ e4 gb (by intro e;injection e with e<;>omega)
 have y4:w6.frozen? ⟨g,4,none⟩=false:=by rw[hw6,World.frozen?_setCell];exact z4
 have q2:=zaZ o2 gb (by intro e;injection e with e<;>omega)
 have q3:=zaZ o3 gb (by intro e;injection e with e<;>omega)
 have O2:=Lib.hid o2
 have O3:=Lib.hid o3
 clear hw6 gb e0 e1 e2 e3 e4 z0 z1 z2 z3 z4 oz o2 o3 o5
 have hst:Hid ((((((w6.setCell ⟨g,0,none⟩ (.int .i64 x0)).setCell ⟨g,1,none⟩ (.int .i64 x1)).setCell ⟨g,2,none⟩ (.string x2)).setCell ⟨g,3,none⟩ (.slice A x3 c9)).setCell ⟨g,4,none⟩ (.slice K9 x4 d9))=(((((w5.setCell ⟨g,0,none⟩ (.int .i64 x0)).setCell ⟨g,1,none⟩ (.int .i64 x1)).setCell ⟨g,2,none⟩ (.string x2)).setCell ⟨g,3,none⟩ (.slice A x3 c9)).setCell ⟨g,4,none⟩ (.slice K9 x4 d9)).setCell ⟨W.heap.size+3,3,none⟩ (.slice (some ⟨g,0,none⟩) 1 cap)):=Lib.hid (by rw[HW6.out];exact set_far w5 hne5 _ _ _ _ _ _)
 try simp only[rgS]
 refine wpAnyH_ready (rs:=[10]) (by kernel_rfl) (by simp) ?_
 refine AllReadyH.cons rfl (fun K hK=> ?_) AllReadyH.nil
 go_simp
 refine hK.out _ _ (by rw[hst.out];exact⟨zaZ (zaZ O2.out OL.out (by intro e;injection e with e<;>omega)) (zaV _ (W.heap.size+3) 3 _) (by intro e;injection e with e<;>omega),zaZ (zaZ O3.out OL.out (by intro e;injection e with e<;>omega)) (zaV _ (W.heap.size+3) 3 _) (by intro e;injection e with e<;>omega)⟩) (fun hH2=> ?_)
 clear hK K
 refine wpAnyH_done (by kernel_rfl) ?_ _
 go_end0
 exact⟨_,_,q,rfl,HP.out.2.2.2.2.1,HP.out.2.2.2.2.2,by rw[hst.out];exact HADD.out⟩
end Go.Proofs.YtceddodfddlncaaGreatDoor
