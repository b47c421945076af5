
import Derived.Lib.SlBytesConst
import Derived.Great.BuildSlice
import Derived.Test.YtjfgmgkhinehaaaGreatDoorCf01
import Derived.Test.YtjfgmgkhinehaaaGreatDoorCf02
import Derived.Test.YtjfgmgkhinehaaaGreatDoorCf04
import Derived.Test.YtjfgmgkhinehaaaGreatDoorCf07
import Derived.Test.YtjfgmgkhinehaaaGreatDoorCf09
import Derived.Test.YtjfgmgkhinehaaaGreatDoorCf11
import Derived.Test.YtjfgmgkhinehaaaGreatDoorCf20
import Derived.Test.YtjfgmgkhinehaaaGreatDoorCf21
import Derived.Test.YtjfgmgkhinehaaaGreatDoorCf23
import Derived.Test.YtjfgmgkhinehaaaGreatDoorCf24
import Derived.Test.YtjfgmgkhinehaaaGreatDoorCf26
import Derived.Test.YtjfgmgkhinehaaaGreatDoorCf30
import Derived.Test.YtjfgmgkhinehaaaGreatDoorCf33
import Derived.Test.YtjfgmgkhinehaaaGreatDoorCf34
import Derived.Test.YtjfgmgkhinehaaaGreatDoorCf38
import Derived.Test.YtjfgmgkhinehaaaGreatDoorCf39
import Derived.Test.YtjfgmgkhinehaaaGreatDoorCf40
import Derived.Test.YtjfgmgkhinehaaaGreatDoorCf43
import Derived.Test.YtjfgmgkhinehaaaGreatDoorCb03
import Derived.Test.YtjfgmgkhinehaaaGreatDoorCb07
import Derived.Test.YtjfgmgkhinehaaaGreatDoorCb11
import Derived.Test.YtjfgmgkhinehaaaGreatDoorCb12
set_option linter.all false
namespace Go.Proofs.YtjfgmgkhinehaaaGreatDoor
open Go Go.RowKit
def JErr (n pos:Int) (v:Value) (w:World):Prop:=
 (n=0∧pos= -1∧v= .nilIface)∨(n≠0∧pos= -1∧v= .iface 95 (.int .i64 n))∨(n≠0∧ ∃b,v= .iface 120 (.pointer (some ⟨b,0,none⟩))∧w.cell? ⟨b,0,none⟩=some (.int .i64 pos)∧w.cell? ⟨b,1,none⟩=some (.iface 95 (.int .i64 n)))
theorem parsedL_ends (l:List Int):((parsedL l).2.1=0→(parsedL l).2.2= -1)∧((parsedL l).2.1≠0→(parsedL l).1=zeroJ):=by
 unfold parsedL readL
 split
 ·exact⟨fun h=>(by cases h),fun _=>rfl⟩
 ·split
  ·rename_i he;exact⟨fun h=>absurd h he,fun _=>rfl⟩
  ·split
   ·exact⟨fun h=>(by cases h),fun _=>rfl⟩
   ·exact⟨fun _=>rfl,fun h=>absurd rfl h⟩
def PAll (W:World) (r:J×Int×Int) (e:Ending) (w':World):Prop:=
 ∃v ev,e= .returned (.tuple #[v,ev])∧RepS w' (fun b=>W.heap.size≤b) r.1 v∧JErr r.2.1 r.2.2 ev w'∧Below W.heap.size W w'
theorem parse_tells (A:Option Addr) (xs:List Int) (n c:Nat) (W:World) (hn:xs.length=n) (hn2:n≤9223372036854775807) (hx:Bytes xs) (hl:Lies W A xs) (hm:Marks W) (ht:ErrTab W):
  Calls Tryz.prog 41 #[.slice A n c] W (PAll W (parsedL xs)):=by
 obtain⟨e1,e2⟩:=parsedL_ends xs
 refine(parse_any A xs n c W hn hn2 hx hl hm ht).mono ?_
 rintro e w' hp
 rcases hp with(⟨h0,v,rfl,hr,hb⟩|⟨h0,b,rfl,c0,c1,_,hb⟩)|⟨h0,h1,rfl,hb⟩
 ·exact⟨v,_,rfl,hr,.inl ⟨h0,e1 h0,rfl⟩,hb⟩
 ·exact⟨_,_,rfl,by rw[e2 h0];exact RepS.zero _ _,.inr (.inr ⟨h0,b,rfl,c0,c1⟩),hb⟩
 ·exact⟨_,_,rfl,by rw[e2 h0];exact RepS.zero _ _,.inr (.inl ⟨h0,h1,rfl⟩),hb⟩
structure Ask5 (w:World):Prop where
 tab:ErrTab w
 marks:Marks w
theorem Ask5.below {w w':World} (h:Ask5 w) (hb:Below w.heap.size w w'):Ask5 w':=⟨h.tab.below hb,h.marks.below hb⟩
end Go.Proofs.YtjfgmgkhinehaaaGreatDoor
namespace Go.Proofs.YtjfgmgkhinehaaaGreatDoor
open Go Go.RowKit
theorem parse_str (s:ByteArray) (c:Nat) (W:World) (ha:Ask5 W) (hs:s.size≤5000):Calls Tryz.prog 41 #[.slice (some ⟨W.heap.size,0,none⟩) s.size c] (Lib.bytesWorld W 5 s) fun e w'=>
  ∃x0 x1 x2 xA xp xc xK xq xd ev,e= .returned (.tuple #[.agg #[.int .i64 x0,.int .i64 x1,.string x2,.slice xA xp xc,.slice xK xq xd],ev])∧RepJ w' (parsedL (strL s)).1 (.agg #[.int .i64 x0,.int .i64 x1,.string x2,.slice xA xp xc,.slice xK xq xd])∧JErr (parsedL (strL s)).2.1 (parsedL (strL s)).2.2 ev w'∧Below W.heap.size W w':=by
 refine(parse_tells (some ⟨W.heap.size,0,none⟩) (strL s) s.size c _ (length_strL s) (by omega) (strL_bd s) (liesBytes W 5 s) (ha.marks.below (belowBytes W _ s)) (ha.tab.below (belowBytes W _ s))).mono ?_
 rintro e w' ⟨v,ev,rfl,hr,he,hb⟩
 have hj:=RepS.toJ _ _ hr
 obtain⟨x0,x1,x2,A,p,c,K,q,d,rfl⟩:=hj.form
 exact⟨_,_,_,_,_,_,_,_,_,ev,rfl,hj,he,(belowBytes W 5 s).trans (hb.mono (belowBytes W 5 s).size)⟩
end Go.Proofs.YtjfgmgkhinehaaaGreatDoor
namespace Go.Proofs.YtjfgmgkhinehaaaGreatDoor
open Go Go.RowKit
structure Ask9 (w:World):Prop where
 ask:Ask5 w
 maxl:MaxLS w
theorem Ask9.below {w w':World} (h:Ask9 w) (hb:Below w.heap.size w w'):Ask9 w':=⟨h.ask.below hb,h.maxl.below hb⟩
theorem JErr.ends {n pos:Int} {v:Value} {w:World} (h:JErr n pos v w):(n=0∧v= .nilIface)∨(n≠0∧ ∃d x,v= .iface d x):=by
 rcases h with⟨h,_,e⟩|⟨h,_,e⟩|⟨h,b,e,_⟩
 ·exact .inl ⟨h,e⟩
 ·exact .inr ⟨h,_,_,e⟩
 ·exact .inr ⟨h,_,_,e⟩
theorem parseN_few (s:ByteArray):(parseN s).length≤16:=by
 unfold parseN
 split
 ·rename_i h
  unfold okW at h
  rw[Bool.and_eq_true,decide_eq_true_eq]at h
  exact h.2
 ·simp
theorem readTok_few {j:J} {t:TokM} (h:readTok j=some t):t.sc.length≤16:=by
 unfold readTok at h
 split at h
 ·injection h with h
  rw[←h]
  show(askS j nScope).1.length≤16
  unfold askS
  split
  ·simp
  ·split
   ·exact parseN_few _
   ·simp
 ·cases h
set_option maxRecDepth 100000 in
set_option maxHeartbeats 16000000 in
theorem claimRead_any (s:ByteArray) (W:World) (ha:Ask9 W) (hs:s.size≤5000):
  Calls Tryz.prog 28 #[.string s] W (TokTells W (readT (parsedL (strL s)))):=by
 have hconv:=fun(W:World)=>Lib.run_convert_string_bytes (P:=Tryz.prog) W 9 80 5 s Tryz.underlying9 Tryz.underlying80 Tryz.underlying5
 have hB0:=belowAlloc W (.cells #[.string ⟨#[]⟩,.string ⟨#[]⟩,.string ⟨#[]⟩,.string ⟨#[]⟩,.slice none 0 0,.int .i64 0,.int .i64 0] 42)
 have hbr0:Blk (W.alloc (.cells #[.string ⟨#[]⟩,.string ⟨#[]⟩,.string ⟨#[]⟩,.string ⟨#[]⟩,.slice none 0 0,.int .i64 0,.int .i64 0] 42)) W.heap.size 42 zeros7:=heapAtC W rfl zeros7 _
 have HP:=Lib.hid (fun(c:Nat)=>by
  have:=parse_str s c _ (ha.ask.below hB0) hs
  rw[show(W.alloc (.cells #[.string ⟨#[]⟩,.string ⟨#[]⟩,.string ⟨#[]⟩,.string ⟨#[]⟩,.slice none 0 0,.int .i64 0,.int .i64 0] 42)).heap.size=W.heap.size+1 by simp]at this
  exact this)
 have HA:=Lib.hid ha
 have HB0:=Lib.hid hB0
 have HBR0:=Lib.hid hbr0
 have HSML:=Lib.hid (fun h=>parsed_small (l:=strL s) h)
 have HMLD:=Lib.hid (fun h=>(parsed_right (strL s) h).2)
 obtain⟨r,hr⟩: ∃r,r=parsedL (strL s):=⟨_,rfl⟩
 rw[←hr]at HP HSML HMLD⊢
 obtain⟨j,no,po⟩:=r
 obtain⟨R,hR⟩: ∃R,R=readT (j,no,po):=⟨_,rfl⟩
 have HR:Hid (R=if no≠0 then none else match readTok j with|some t=>if tokOk t=true then some t else none|none=>none):=Lib.hid hR
 rw[←hR]
 clear ha hs hr hR hB0 hbr0
 go_enter Tryz.func28,Tryz.ntmps28
 go_wp2_with fail
 (with_reducible refine(HP.out _).mono ?_)
 rintro e w2 ⟨x0,x1,x2,xA,xp,xc,xK,xq,xd,ev,rfl,hrj,hev,hb⟩
 have HRJ:=Lib.hid hrj
 have hje:=hev.ends
 have HB2:=Lib.hid (HB0.out.trans (hb.mono (Nat.le_succ _)))
 have hbr2:=HBR0.out.below hb (Nat.lt_succ_self _)
 have HLT2:=Lib.hid hbr2.lt
 clear hrj hev hb hconv HP
 rcases hje with⟨rfl,rfl⟩|⟨hno,d,x,rfl⟩
 case inr=>
  have HRN:Hid (R=none):=Lib.hid (by rw[HR.out,if_pos hno])
  clear hno
  go_wp2_with(first
   |(refine wpList_alloc_blk rfl (some 4) rfl _ rfl _ zeroJw ?_;intro g3 wa3 hg3 hb3 hgr3;have HA3:=Lib.hid hgr3;have HG3:=Lib.hid hg3;have hbr3:=hbr2.grownN hgr3;clear hgr3 hg3;try go_frame)
   |(refine wpList_store_blk rfl none rfl _ (.tmp 4) (.tmp 12) rfl g3 0 [.int .i64 x0,.int .i64 x1,.string x2,.slice xA xp xc,.slice xK xq xd] rfl rfl _ _ hb3 (by simp[zeros5]) sizeJson (by intro v hv;simp at hv;rcases hv with rfl|rfl|rfl|rfl|rfl<;>rfl) ?_;intro w4 hc3 hgs3;rw[splice_all _ _ (by simp[zeros5])]at hc3;have HM3:=Lib.hid (mid_below (Below.refl _ _) HA3.out HG3.out hgs3);have hbr4:=hbr3.grown hgs3 (by intro e;injection e with e;have:=HG3.out;have:=HLT2.out;omega);obtain⟨z0,z1,z2,z3,z4⟩:w4.cell? ⟨g3,0,none⟩=some (.int .i64 x0)∧w4.cell? ⟨g3,1,none⟩=some (.int .i64 x1)∧w4.cell? ⟨g3,2,none⟩=some (.string x2)∧w4.cell? ⟨g3,3,none⟩=some (.slice xA xp xc)∧w4.cell? ⟨g3,4,none⟩=some (.slice xK xq xd):=⟨hc3.cell 0,hc3.cell 1,hc3.cell 2,hc3.cell 3,hc3.cell 4⟩;clear hgs3 hc3 hb3 hbr3;try go_frame)
   |(refine wpList_store_blk rfl none rfl _ (.tmp 2) (.tmp 16) rfl W.heap.size 0 [.string ⟨#[]⟩,.string ⟨#[]⟩,.string ⟨#[]⟩,.string ⟨#[]⟩,.slice none 0 0,.int .i64 0,.int .i64 0] rfl rfl _ _ hbr4 (by simp[zeros7]) sizeTok (by intro v hv;simp[zeros7]at hv;rcases hv with rfl|rfl|rfl<;>rfl) ?_;intro w9 hb9 hgr;rw[splice_all _ _ (by simp[zeros7])]at hb9;have HB9:=Lib.hid hb9;have HG9:=Lib.hid hgr;clear hgr hb9;try go_frame))
  (try simp only[Exit.inBlock,Exit.then])
  have r0:=HB9.out.cell 0
  have r1:=HB9.out.cell 1
  have r2:=HB9.out.cell 2
  have r3:=HB9.out.cell 3
  have r4:=HB9.out.cell 4
  have r5:=HB9.out.cell 5
  have r6:=HB9.out.cell 6
  refine bodyPost_ret (v:= .tuple #[.agg #[.string ⟨#[]⟩,.string ⟨#[]⟩,.string ⟨#[]⟩,.string ⟨#[]⟩,.slice none 0 0,.int .i64 0,.int .i64 0],.iface 95 (.int .i64 90)]) ?_ rfl (.inr ⟨HRN.out,_,_,rfl,.inr (.inl ⟨by decide,rfl⟩),(HB2.out.trans (HM3.out.mono HB2.out.size)).grown HG9.out (HB2.out.trans (HM3.out.mono HB2.out.size)).size (by intro b e;injection e with e;omega)⟩)
  rw[results_cell_tmp rfl];go_simp
 case inl=>
  have hsm:=(HSML.out rfl).1
  have hml:=HMLD.out rfl
  have HTK:=Lib.hid (fun(W':World) (hW:Below w2.heap.size w2 W')=>readToken_any j _ W' (RepJ.below hW _ _ HRJ.out) hsm hml ((HA.out.below (HB2.out.trans (hW.mono HB2.out.size))).maxl))
  clear hsm hml HSML HMLD
  go_wp2_with(first
   |(refine wpList_alloc_blk rfl (some 4) rfl _ rfl _ zeroJw ?_;intro g3 wa3 hg3 hb3 hgr3;have HA3:=Lib.hid hgr3;have HG3:=Lib.hid hg3;have hbr3:=hbr2.grownN hgr3;clear hgr3 hg3;try go_frame)
   |(refine wpList_store_blk rfl none rfl _ (.tmp 4) (.tmp 12) rfl g3 0 [.int .i64 x0,.int .i64 x1,.string x2,.slice xA xp xc,.slice xK xq xd] rfl rfl _ _ hb3 (by simp[zeros5]) sizeJson (by intro v hv;simp at hv;rcases hv with rfl|rfl|rfl|rfl|rfl<;>rfl) ?_;intro w4 hc3 hgs3;rw[splice_all _ _ (by simp[zeros5])]at hc3;have HM3:=Lib.hid (mid_below (Below.refl _ _) HA3.out HG3.out hgs3);have hbr4:=hbr3.grown hgs3 (by intro e;injection e with e;have:=HG3.out;have:=HLT2.out;omega);obtain⟨z0,z1,z2,z3,z4⟩:w4.cell? ⟨g3,0,none⟩=some (.int .i64 x0)∧w4.cell? ⟨g3,1,none⟩=some (.int .i64 x1)∧w4.cell? ⟨g3,2,none⟩=some (.string x2)∧w4.cell? ⟨g3,3,none⟩=some (.slice xA xp xc)∧w4.cell? ⟨g3,4,none⟩=some (.slice xK xq xd):=⟨hc3.cell 0,hc3.cell 1,hc3.cell 2,hc3.cell 3,hc3.cell 4⟩;clear hgs3 hc3 hb3 hbr3;try go_frame)
   |(go_at_call 65;fail))
  refine(HTK.out _ HM3.out).mono ?_
  have HB4:=Lib.hid (HB2.out.trans (HM3.out.mono HB2.out.size))
  rintro e w5 (⟨t,A,c,hrt,rfl,hsl,hne,hb⟩|⟨hrt,d,x,rfl,hce,hb⟩)
  ·have HB5:=Lib.hid (HB4.out.trans (hb.mono HB4.out.size))
   have hbr5:=hbr4.below hb hbr4.lt
   have HLT5:=Lib.hid hbr5.lt
   have HR2:Hid (R=if tokOk t=true then some t else none):=Lib.hid (by rw[HR.out,if_neg (by simp),hrt])
   have hln:=readTok_few hrt
   have HSL:=Lib.hid hsl
   have HNE:=Lib.hid hne
   have HCK:=Lib.hid (fun(W':World) (hW:Below w5.heap.size w5 W')=>claimCheck_any t A c W' (hsl.below hW) (by omega))
   obtain⟨ok,hok⟩: ∃b,b=tokOk t:=⟨_,rfl⟩
   rw[←hok]at HR2 HCK
   obtain⟨ti,tj,td,ts,tsc,ta,tb⟩:=t
   obtain⟨tn,htn⟩: ∃n,n=tsc.length:=⟨_,rfl⟩
   have HSL2:Hid (SliceN w5 (.slice A tn c) tsc):=Lib.hid (by rw[htn];exact HSL.out)
   have HTN:=Lib.hid htn
   dsimp only at HCK HNE⊢
   rw[←htn]at HCK⊢
   clear hb hbr4 hrt hln hsl hne hok z0 z1 z2 z3 z4 HR HTK htn HSL
   go_wp2_with(first
    |(refine wpList_alloc_blk rfl (some 6) rfl _ rfl _ zeroTokW ?_;intro g6 wa6 hg6 hb6 hgr6;have HA6:=Lib.hid hgr6;have HG6:=Lib.hid hg6;have hbr6:=hbr5.grownN hgr6;clear hgr6 hg6;try go_frame)
    |(refine wpList_store_blk rfl none rfl _ (.tmp 6) (.tmp 21) rfl g6 0 [.string ti,.string tj,.string td,.string ts,.slice A tn c,.int .i64 ta,.int .i64 tb] rfl rfl _ _ hb6 (by simp[zeros7]) sizeTok (by intro v hv;simp at hv;rcases hv with rfl|rfl|rfl|rfl|rfl|rfl|rfl<;>rfl) ?_;intro w7 hc6 hgs6;rw[splice_all _ _ (by simp[zeros7])]at hc6;have HM6:=Lib.hid (mid_below (Below.refl _ _) HA6.out HG6.out hgs6);have hbr7:=hbr6.grown hgs6 (by intro e;injection e with e;have:=HG6.out;have:=HLT5.out;omega);obtain⟨s0,s1,s2,s3,s4,s5,s6⟩:w7.cell? ⟨g6,0,none⟩=some (.string ti)∧w7.cell? ⟨g6,1,none⟩=some (.string tj)∧w7.cell? ⟨g6,2,none⟩=some (.string td)∧w7.cell? ⟨g6,3,none⟩=some (.string ts)∧w7.cell? ⟨g6,4,none⟩=some (.slice A tn c)∧w7.cell? ⟨g6,5,none⟩=some (.int .i64 ta)∧w7.cell? ⟨g6,6,none⟩=some (.int .i64 tb):=⟨hc6.cell 0,hc6.cell 1,hc6.cell 2,hc6.cell 3,hc6.cell 4,hc6.cell 5,hc6.cell 6⟩;have HC6:=Lib.hid hc6;clear hc6;clear hgs6 hb6 hbr6;try go_frame)
    |(go_at_call 24;fail))
   have hck:=HCK.out _ HM6.out
   refine hck.mono ?_
   rintro e w8 ⟨rfl,hb⟩
   have hbr8:=hbr7.below hb hbr7.lt
   have HBR8:=Lib.hid hbr8
   have HB7:=HB5.out.trans (HM6.out.mono HB5.out.size)
   have HB8:=Lib.hid (HB7.trans (hb.mono HB7.size))
   have HSL8:=Lib.hid ((HSL2.out.below HM6.out).below hb)
   have c8:=HC6.out.below hb HC6.out.lt
   have u0:=c8.cell 0
   have u1:=c8.cell 1
   have u2:=c8.cell 2
   have u3:=c8.cell 3
   have u4:=c8.cell 4
   have u5:=c8.cell 5
   have u6:=c8.cell 6
   clear hb hbr7 s0 s1 s2 s3 s4 s5 s6 HB7 hck HCK c8
   cases ok with
   |true=>
    rw[show errV (if true=true then 0 else 90)= .nilIface from rfl]
    have HRN:=Lib.hid (HR2.out.trans (if_pos rfl))
    go_wp2_with(refine wpList_store_blk rfl none rfl _ (.tmp 2) (.tmp 33) rfl W.heap.size 0 [.string ti,.string tj,.string td,.string ts,.slice A tn c,.int .i64 ta,.int .i64 tb] rfl rfl _ _ hbr8 (by simp[zeros7]) sizeTok (by intro v hv;simp at hv;rcases hv with rfl|rfl|rfl|rfl|rfl|rfl|rfl<;>rfl) ?_;intro w9 hb9 hgr;rw[splice_all _ _ (by simp[zeros7])]at hb9;have HB9:=Lib.hid hb9;have HG9:=Lib.hid hgr;clear hgr hb9;try go_frame)
    (try simp only[Exit.inBlock,Exit.then])
    have r0:=HB9.out.cell 0
    have r1:=HB9.out.cell 1
    have r2:=HB9.out.cell 2
    have r3:=HB9.out.cell 3
    have r4:=HB9.out.cell 4
    have r5:=HB9.out.cell 5
    have r6:=HB9.out.cell 6
    refine bodyPost_ret (v:= .tuple #[.agg #[.string ti,.string tj,.string td,.string ts,.slice A tn c,.int .i64 ta,.int .i64 tb],.nilIface]) ?_ rfl (.inl ⟨⟨ti,tj,td,ts,tsc,ta,tb⟩,A,c,HRN.out,by rw[HTN.out],by have:=HSL8.out.grownC HBR8.out (fun i x h hx=>HNE.out x hx (zeros7_str i x h)) HG9.out;rw[HTN.out]at this;exact this,HNE.out,HB8.out.grown HG9.out HB8.out.size (by intro b e;injection e with e;omega)⟩)
    rw[results_cell_tmp rfl];go_simp
   |false=>
    rw[show errV (if false=true then 0 else 90)= .iface 95 (.int .i64 90)from rfl]
    have HRN:=Lib.hid (HR2.out.trans (if_neg (by decide)))
    go_wp2_with(refine wpList_store_blk rfl none rfl _ (.tmp 2) (.tmp 31) rfl W.heap.size 0 [.string ⟨#[]⟩,.string ⟨#[]⟩,.string ⟨#[]⟩,.string ⟨#[]⟩,.slice none 0 0,.int .i64 0,.int .i64 0] rfl rfl _ _ hbr8 (by simp[zeros7]) sizeTok (by intro v hv;simp[zeros7]at hv;rcases hv with rfl|rfl|rfl<;>rfl) ?_;intro w9 hb9 hgr;rw[splice_all _ _ (by simp[zeros7])]at hb9;have HB9:=Lib.hid hb9;have HG9:=Lib.hid hgr;clear hgr hb9;try go_frame)
    (try simp only[Exit.inBlock,Exit.then])
    have r0:=HB9.out.cell 0
    have r1:=HB9.out.cell 1
    have r2:=HB9.out.cell 2
    have r3:=HB9.out.cell 3
    have r4:=HB9.out.cell 4
    have r5:=HB9.out.cell 5
    have r6:=HB9.out.cell 6
    refine bodyPost_ret (v:= .tuple #[.agg #[.string ⟨#[]⟩,.string ⟨#[]⟩,.string ⟨#[]⟩,.string ⟨#[]⟩,.slice none 0 0,.int .i64 0,.int .i64 0],.iface 95 (.int .i64 90)]) ?_ rfl (.inr ⟨HRN.out,_,_,rfl,.inr (.inl ⟨by decide,rfl⟩),HB8.out.grown HG9.out HB8.out.size (by intro b e;injection e with e;omega)⟩)
    rw[results_cell_tmp rfl];go_simp
  ·have HB5:=Lib.hid (HB4.out.trans (hb.mono HB4.out.size))
   have hbr5:=hbr4.below hb hbr4.lt
   have HLT5:=Lib.hid hbr5.lt
   have HRN:Hid (R=none):=Lib.hid (by rw[HR.out,if_neg (by simp),hrt])
   have HCE:=Lib.hid hce
   clear hb hbr4 hrt hce z0 z1 z2 z3 z4 HR HTK
   go_wp2_with(first
    |(refine wpList_alloc_blk rfl (some 6) rfl _ rfl _ zeroTokW ?_;intro g6 wa6 hg6 hb6 hgr6;have HA6:=Lib.hid hgr6;have HG6:=Lib.hid hg6;have hbr6:=hbr5.grownN hgr6;clear hgr6 hg6;try go_frame)
    |(refine wpList_store_blk rfl none rfl _ (.tmp 6) (.tmp 21) rfl g6 0 [.string ⟨#[]⟩,.string ⟨#[]⟩,.string ⟨#[]⟩,.string ⟨#[]⟩,.slice none 0 0,.int .i64 0,.int .i64 0] rfl rfl _ _ hb6 (by simp[zeros7]) sizeTok (by intro v hv;simp[zeros7]at hv;rcases hv with rfl|rfl|rfl<;>rfl) ?_;intro w7 hc6 hgs6;rw[splice_all _ _ (by simp[zeros7])]at hc6;have HM6:=Lib.hid (mid_below (Below.refl _ _) HA6.out HG6.out hgs6);have hbr7:=hbr6.grown hgs6 (by intro e;injection e with e;have:=HG6.out;have:=HLT5.out;omega);have HBR7:=Lib.hid hbr7;clear hc6;clear hgs6 hb6 hbr6;try go_frame)
    |(refine wpList_store_blk rfl none rfl _ (.tmp 2) (.tmp 25) rfl W.heap.size 0 [.string ⟨#[]⟩,.string ⟨#[]⟩,.string ⟨#[]⟩,.string ⟨#[]⟩,.slice none 0 0,.int .i64 0,.int .i64 0] rfl rfl _ _ hbr7 (by simp[zeros7]) sizeTok (by intro v hv;simp[zeros7]at hv;rcases hv with rfl|rfl|rfl<;>rfl) ?_;intro w9 hb9 hgr;rw[splice_all _ _ (by simp[zeros7])]at hb9;have HB9:=Lib.hid hb9;have HG9:=Lib.hid hgr;clear hgr hb9;try go_frame))
   (try simp only[Exit.inBlock,Exit.then])
   have r0:=HB9.out.cell 0
   have r1:=HB9.out.cell 1
   have r2:=HB9.out.cell 2
   have r3:=HB9.out.cell 3
   have r4:=HB9.out.cell 4
   have r5:=HB9.out.cell 5
   have r6:=HB9.out.cell 6
   have HB7:=HB5.out.trans (HM6.out.mono HB5.out.size)
   refine bodyPost_ret (v:= .tuple #[.agg #[.string ⟨#[]⟩,.string ⟨#[]⟩,.string ⟨#[]⟩,.string ⟨#[]⟩,.slice none 0 0,.int .i64 0,.int .i64 0],.iface d x]) ?_ rfl (.inr ⟨HRN.out,d,x,rfl,(HCE.out.below HM6.out).grownC HBR7.out (by intro d x h;simp[zeros7]at h) HG9.out,HB7.grown HG9.out HB7.size (by intro b e;injection e with e;omega)⟩)
   rw[results_cell_tmp rfl];go_simp
end Go.Proofs.YtjfgmgkhinehaaaGreatDoor
namespace Go.Proofs.YtjfgmgkhinehaaaGreatDoor
open Go Go.RowKit
def cx1:ByteArray:=⟨#[123,34,99,108,105,101,110,116,95,105,100,34,58,34,99,34,44,34,101,120,112,34,58,57,44,34,105,97,116,34,58,49,44,34,105,115,115,34,58,34,105,34,44,34,106,116,105,34,58,34,104,34,44,34,115,99,111,112,101,34,58,34,98,32,97,34,125]⟩
def cx2:ByteArray:=⟨#[123,34,99,108,105,101,110,116,95,105,100,34,58,34,99,34,44,34,101,120,112,34,58,57,44,34,105,97,116,34,58,49,44,34,105,115,115,34,58,34,105,34,44,34,106,116,105,34,58,34,104,34,44,34,115,99,111,112,101,34,58,34,98,32,97,34,44,34,120,34,58,49,125]⟩
theorem cr1:readT (parsedL (strL cx1))=some ⟨⟨#[105]⟩,⟨#[104]⟩,⟨#[99]⟩,⟨#[]⟩,[⟨#[97]⟩,⟨#[98]⟩],1,9⟩:=by kernel_rfl
theorem cr2:readT (parsedL (strL cx2))=none:=by kernel_rfl
theorem isC_any (d:TypeId) (x:Value) (w:World) (h:CErr 90 (.iface d x) w) (ht:ErrTab w):Calls Tryz.prog 26 #[.iface d x] w fun e w'=>e= .returned (.bool true)∧Below w.heap.size w w':=by
 have HN:=Lib.hid (numC h ht)
 clear h ht
 go_enter Tryz.func26,Tryz.ntmps26
 go_wp2_with(go_at_call 35;(with_reducible refine HN.out.mono ?_);rintro e w' ⟨rfl,hb⟩;have HB:=Lib.hid hb;clear hb)
 go_ret
 exact⟨rfl,HB.out⟩
set_option maxRecDepth 100000 in
set_option maxHeartbeats 8000000 in
theorem alive9_any (w:World) (ha:Ask9 w):Calls Tryz.prog 21 #[] w fun e w'=>e= .returned (.bool true)∧Below w.heap.size w w':=by
 have HA:=Lib.hid ha
 have H1:=Lib.hid (claimRead_any cx1 w ha (by decide))
 have H2:=Lib.hid (fun(W:World) (h:Ask9 W)=>claimRead_any cx2 W h (by decide))
 rw[cr1]at H1
 rw[cr2]at H2
 clear ha
 go_enter Tryz.func21,Tryz.ntmps21
 go_wp2_with fail
 refine H1.out.mono ?_
 rintro e w1 (⟨t,A,c,ht,rfl,hsl, -,hb⟩|⟨ht,_⟩)
 case inr=>cases ht
 injection ht with ht
 subst ht
 obtain⟨A0,c0,e0, -,hl, -⟩:=hsl
 obtain⟨b,o,rfl,hlt,hcell⟩:=hl (by simp)
 injection e0 with e1 e2 e3
 subst e1
 have HCL:Hid (w1.cell? ⟨b,o,none⟩=some (.string ⟨#[97]⟩)):=Lib.hid (hcell 0 _ rfl)
 have HLT:=Lib.hid hlt
 have HB1:=Lib.hid hb
 clear hb H1 hl hcell hlt e2 e3
 dsimp only[List.length_cons,List.length_nil]
 go_wp2_with(first
  |(refine wpList_alloc_blk rfl (some 1) rfl _ rfl _ zeroTokW ?_;intro g1 wa1 hg1 hb1 hgr1;have HA1:=Lib.hid hgr1;have HG1:=Lib.hid hg1;clear hgr1 hg1;try go_frame)
  |(refine wpList_store_blk rfl none rfl _ (.tmp 1) (.tmp 7) rfl g1 0 [.string ⟨#[105]⟩,.string ⟨#[104]⟩,.string ⟨#[99]⟩,.string ⟨#[]⟩,.slice (some ⟨b,o,none⟩) 2 c,.int .i64 1,.int .i64 9] rfl rfl _ _ hb1 (by simp[zeros7]) sizeTok (by intro v hv;simp at hv;rcases hv with rfl|rfl|rfl|rfl|rfl|rfl|rfl<;>rfl) ?_;intro ws1 hc1 hgs1;rw[splice_all _ _ (by simp[zeros7])]at hc1;have HM1:=Lib.hid (mid_below (Below.refl _ _) HA1.out HG1.out hgs1);have HC1:=Lib.hid hc1;clear hgs1 hb1 hc1;try go_frame))
 have HB2:=Lib.hid (HB1.out.trans (HM1.out.mono HB1.out.size))
 refine(H2.out _ (HA.out.below HB2.out)).mono ?_
 rintro e w3 (⟨t,A2,c2,ht,_⟩|⟨-,d,x,rfl,hce,hb⟩)
 case inl=>cases ht
 have HCE:=Lib.hid hce
 have HB3:=Lib.hid (HB2.out.trans (hb.mono HB2.out.size))
 have HM13:=Lib.hid (HM1.out.trans (hb.mono HM1.out.size))
 have HC13:=Lib.hid (HC1.out.below hb HC1.out.lt)
 clear hce hb
 go_wp2_with(first
  |(refine wpList_alloc_blk rfl (some 3) rfl _ rfl _ zeroTokW ?_;intro g3 wa3 hg3 hb3 hgr3;have HA3:=Lib.hid hgr3;have HG3:=Lib.hid hg3;clear hgr3 hg3;try go_frame)
  |(refine wpList_store_blk rfl none rfl _ (.tmp 3) (.tmp 11) rfl g3 0 [.string ⟨#[]⟩,.string ⟨#[]⟩,.string ⟨#[]⟩,.string ⟨#[]⟩,.slice none 0 0,.int .i64 0,.int .i64 0] rfl rfl _ _ hb3 (by simp[zeros7]) sizeTok (by intro v hv;simp[zeros7]at hv;rcases hv with rfl|rfl|rfl<;>rfl) ?_;intro ws3 hc3 hgs3;rw[splice_all _ _ (by simp[zeros7])]at hc3;have HM3:=Lib.hid (mid_below (Below.refl _ _) HA3.out HG3.out hgs3);have HC3:=Lib.hid hc3;have hcx:=HC13.out.below HM3.out HC13.out.lt;have q2:=hcx.cell 2;have q4:=hcx.cell 4;have qe:=((HM13.out.trans (HM3.out.mono HM13.out.size)).cell (p:=⟨b,o,none⟩) HLT.out).trans HCL.out;clear hcx;clear hgs3 hb3 hc3;try go_frame)
  |(go_at_call 26;(with_reducible refine(isC_any d x _ (HCE.out.below HM3.out) (HA.out.below (HB3.out.trans (HM3.out.mono HB3.out.size))).ask.tab).mono ?_);rintro e w4 ⟨rfl,hb⟩;have HB4:=Lib.hid ((HB3.out.trans (HM3.out.mono HB3.out.size)).trans (hb.mono (HB3.out.trans (HM3.out.mono HB3.out.size)).size));clear hb))
 go_ret
 exact⟨rfl,HB4.out⟩
end Go.Proofs.YtjfgmgkhinehaaaGreatDoor
namespace Go.Proofs.YtjfgmgkhinehaaaGreatDoor
open Go Go.RowKit
abbrev mbT (n t:ByteArray):List Value:=[.string n,.int .i64 3,.int .i64 0,.string t,.slice none 0 0,.slice none 0 0]
abbrev mbI (n:ByteArray) (x:Int):List Value:=[.string n,.int .i64 2,.int .i64 x,.string ⟨#[]⟩,.slice none 0 0,.slice none 0 0]
def tJ (t:ByteArray):J:= .mk 3 0 t [] []
def nJ (x:Int):J:= .mk 2 x ⟨#[]⟩ [] []
theorem tJ_rep (t:ByteArray) (W:World) (S:Nat→Prop) (ht:t.size≤9223372036854775807):RepS W S (tJ t) (.agg #[.int .i64 3,.int .i64 0,.string t,.slice none 0 0,.slice none 0 0]):=RepS.plain W S 3 0 t ht
theorem nJ_rep (x:Int) (W:World) (S:Nat→Prop):RepS W S (nJ x) (.agg #[.int .i64 2,.int .i64 x,.string ⟨#[]⟩,.slice none 0 0,.slice none 0 0]):=RepS.plain W S 2 x ⟨#[]⟩ (by decide)
def scTx (ns:List ByteArray):ByteArray:=toS (textN ns)
def tokMs6 (i j d tx:ByteArray) (a b:Int):List (ByteArray×J):=[(nCid,tJ d),(nExp,nJ b),(nIat,nJ a),(nIss,tJ i),(nJti,tJ j),(nScope,tJ tx)]
def tokMs7 (i j d tx s:ByteArray) (a b:Int):List (ByteArray×J):=[(nCid,tJ d),(nExp,nJ b),(nIat,nJ a),(nIss,tJ i),(nJti,tJ j),(nScope,tJ tx),(nSub,tJ s)]
def tokJ (t:TokM):J:= .mk 5 0 ⟨#[]⟩ ([tJ t.cid,nJ t.exp,nJ t.iat,tJ t.iss,tJ t.jti,tJ (scTx t.sc)]++if t.sub.size=0 then[]else[tJ t.sub]) ([nCid,nExp,nIat,nIss,nJti,nScope]++if t.sub.size=0 then[]else[nSub])
theorem puts6 (i j d tx:ByteArray) (a b:Int):putsL (tokMs6 i j d tx a b)=([nCid,nExp,nIat,nIss,nJti,nScope],[tJ d,nJ b,nJ a,tJ i,tJ j,tJ tx]):=by kernel_rfl
theorem puts7 (i j d tx s:ByteArray) (a b:Int):putsL (tokMs7 i j d tx s a b)=([nCid,nExp,nIat,nIss,nJti,nScope,nSub],[tJ d,nJ b,nJ a,tJ i,tJ j,tJ tx,tJ s]):=by kernel_rfl
set_option maxRecDepth 100000 in
theorem wp_slice_six {o:Oper} {act:Act} {w:World} {K:Act→World→Prop} {Q:Exit→Act→World→Prop} (parts:Array (Nat×Operand)) (ho:o.op= .buildSlice 25 6 parts) (i j d tx:ByteArray) (a b:Int)
  (hv:(parts.map fun(i,x)=>(i,act.eval x)).toList=[(0,.agg (mbT nCid d).toArray),(1,.agg (mbI nExp b).toArray),(2,.agg (mbI nIat a).toArray),(3,.agg (mbT nIss i).toArray),(4,.agg (mbT nJti j).toArray),(5,.agg (mbT nScope tx).toArray)])
  (h:K (act.put o.dst (.slice (some ⟨w.heap.size,0,none⟩) 6 6)) (w.alloc (.cells (mbT nCid d++mbI nExp b++mbI nIat a++mbT nIss i++mbT nJti j++mbT nScope tx).toArray 30))):o.wp Tryz.prog act w K Q:=by
 obtain⟨iM,hM,hM0,hM1,hM2⟩:=info_parts infoMp
 refine wp_buildSlice 25 30 6 parts ho (mbT nCid d++mbI nExp b++mbI nIat a++mbT nIss i++mbT nJti j++mbT nScope tx).toArray iM _ Tryz.underlying25 hM hM0 (by rw[hM1];decide) (by rw[hM1];decide) ?_ h
 rw[hM1,hv]
 kernel_rfl
theorem cell_lit6 (w:World) (cs:List Value) (t:TypeId): ∀j u,cs[j]? =some u→(w.alloc (.cells cs.toArray t)).cell? ((⟨w.heap.size,0,none⟩:Addr).add j)=some u:=fun j u h=>by
 rw[Addr.add_lit,World.cell?_alloc_new]
 simpa using h
def zs6 (i j d tx:ByteArray) (a b:Int):List MC:=[⟨nCid,.int .i64 3,.int .i64 0,.string d,.slice none 0 0,.slice none 0 0⟩,⟨nExp,.int .i64 2,.int .i64 b,.string ⟨#[]⟩,.slice none 0 0,.slice none 0 0⟩,⟨nIat,.int .i64 2,.int .i64 a,.string ⟨#[]⟩,.slice none 0 0,.slice none 0 0⟩,⟨nIss,.int .i64 3,.int .i64 0,.string i,.slice none 0 0,.slice none 0 0⟩,⟨nJti,.int .i64 3,.int .i64 0,.string j,.slice none 0 0,.slice none 0 0⟩,⟨nScope,.int .i64 3,.int .i64 0,.string tx,.slice none 0 0,.slice none 0 0⟩]
def zs7 (i j d tx s:ByteArray) (a b:Int):List MC:=zs6 i j d tx a b++[⟨nSub,.int .i64 3,.int .i64 0,.string s,.slice none 0 0,.slice none 0 0⟩]
theorem flat6 (i j d tx:ByteArray) (a b:Int) (W:World) (S:Nat→Prop) (h1:i.size≤9223372036854775807) (h2:j.size≤9223372036854775807) (h3:d.size≤9223372036854775807) (h4:tx.size≤9223372036854775807):FlatM W S (tokMs6 i j d tx a b) (zs6 i j d tx a b):=
 ⟨_,_,rfl,rfl,by show nCid.size≤_;decide,tJ_rep _ _ _ h3,_,_,rfl,rfl,by show nExp.size≤_;decide,nJ_rep _ _ _,_,_,rfl,rfl,by show nIat.size≤_;decide,nJ_rep _ _ _,_,_,rfl,rfl,by show nIss.size≤_;decide,tJ_rep _ _ _ h1,_,_,rfl,rfl,by show nJti.size≤_;decide,tJ_rep _ _ _ h2,_,_,rfl,rfl,by show nScope.size≤_;decide,tJ_rep _ _ _ h4,rfl⟩
theorem flat7 {i j d tx s:ByteArray} {a b:Int} {W:World} {S:Nat→Prop} (h:FlatM W S (tokMs6 i j d tx a b) (zs6 i j d tx a b)) (hs:RepS W S (tJ s) (.agg #[.int .i64 3,.int .i64 0,.string s,.slice none 0 0,.slice none 0 0])):FlatM W S (tokMs7 i j d tx s a b) (zs7 i j d tx s a b):=FlatM.snoc (t:=nSub) (by show nSub.size≤_;decide) hs h
theorem own6 (i j d tx:ByteArray) (a b:Int) (w:World):(w.alloc (.cells (mbT nCid d++mbI nExp b++mbI nIat a++mbT nIss i++mbT nJti j++mbT nScope tx).toArray 30)).ownsRow w.heap.size 30 6 (.slice (some ⟨w.heap.size,0,none⟩) 6 6) 6 (flatM (zs6 i j d tx a b)):=
 ⟨rfl,.inr ⟨w.heap.size,6,_,rfl,Nat.le_refl _,heap_alloc_new w _,Nat.le_refl _,by unfold maxLen;omega,rfl,rfl⟩⟩
theorem ms_ok {ms:List (ByteArray×J)} {ns:List ByteArray} (h:ms.map Prod.fst=ns) (hn:ns.Nodup) (hl:ms.length≤256) (hs: ∀m∈ms,m.2.l=[]∧m.2.k=[]):MsOk ms:=
 ⟨hl,by rw[h];exact hn,fun m hm=>by
  obtain⟨h1,h2⟩:=hs m hm
  cases hv:m.2 with
  |mk k n s l ks=>
   rw[hv]at h1 h2
   have h1:l=[]:=h1
   have h2:ks=[]:=h2
   subst h1;subst h2
   exact .mk (by simp) (by simp) (by simp)⟩
theorem ms6_ok (i j d tx:ByteArray) (a b:Int):MsOk (tokMs6 i j d tx a b):=ms_ok (ns:=[nCid,nExp,nIat,nIss,nJti,nScope]) rfl (by decide+kernel) (by show 6≤256;decide) (fun m hm=>by
 simp[tokMs6]at hm;rcases hm with rfl|rfl|rfl|rfl|rfl|rfl<;>exact⟨rfl,rfl⟩)
theorem ms7_ok (i j d tx s:ByteArray) (a b:Int):MsOk (tokMs7 i j d tx s a b):=ms_ok (ns:=[nCid,nExp,nIat,nIss,nJti,nScope,nSub]) rfl (by decide+kernel) (by show 7≤256;decide) (fun m hm=>by
 simp[tokMs7]at hm;rcases hm with rfl|rfl|rfl|rfl|rfl|rfl|rfl<;>exact⟨rfl,rfl⟩)
theorem visL_len {s:ByteArray} (h:visL (strL s)=true):s.size≤64:=by
 unfold visL at h
 rw[Bool.and_eq_true]at h
 have:=(of_decide_eq_true h.1).2
 rwa [length_strL]at this
end Go.Proofs.YtjfgmgkhinehaaaGreatDoor
namespace Go.Proofs.YtjfgmgkhinehaaaGreatDoor
open Go Go.RowKit
def PrintC (W:World) (t:TokM) (e:Ending) (w':World):Prop:=
 (tokOk t=true∧PrTells (printJ (tokJ t)) W e w')∨(tokOk t=false∧e= .returned (.tuple #[.string ⟨#[]⟩,.iface 95 (.int .i64 90)])∧Below W.heap.size W w')
theorem below_alloc2 {W X Y:World} {o:Obj} (h:Below (W.heap.size+1) (W.alloc o) X) (hb:Below X.heap.size X Y):Below (W.heap.size+1) (W.alloc o) Y:=h.trans (hb.mono (by have:=h.size;simp at this;omega))
theorem tokJ_mild {t:TokM} (h:tokOk t=true) (ht:(textN t.sc).length≤1000000000):Mild (tokJ t):=by
 unfold tokOk textsOk at h
 simp only[Bool.and_eq_true]at h
 obtain⟨⟨⟨⟨⟨h1,h2⟩,h3⟩,h4⟩,h5⟩,h6⟩:=h
 have z1:=visL_len h1
 have z2:=visL_len h2
 have z3:=visL_len h3
 have hm: ∀s:ByteArray,s.size≤1000000000→Mild (tJ s):=fun s h=> .mk 3 0 s [] [] h (by simp) (by simp)
 have hi: ∀n:Int,Mild (nJ n):=fun n=> .mk 2 n ⟨#[]⟩ [] [] (by decide) (by simp) (by simp)
 have h4':t.sub.size≤1000000000:=by
  unfold subOk at h4
  rw[Bool.or_eq_true]at h4
  rcases h4 with h4|h4
  ·have:=of_decide_eq_true h4;omega
  ·have:=(nameB_len h4).2;rw[length_strL]at this;omega
 refine .mk 5 0 ⟨#[]⟩ _ _ (by decide) (fun x hx=> ?_) (fun x hx=> ?_)
 ·split at hx<;>simp at hx
  ·rcases hx with rfl|rfl|rfl|rfl|rfl|rfl<;>decide
  ·rcases hx with rfl|rfl|rfl|rfl|rfl|rfl|rfl<;>decide
 ·have hs:(scTx t.sc).size≤1000000000:=by unfold scTx;rw[size_toS];exact ht
  split at hx<;>simp at hx
  ·rcases hx with rfl|rfl|rfl|rfl|rfl|rfl
   ·exact hm _ (by omega)
   ·exact hi _
   ·exact hi _
   ·exact hm _ (by omega)
   ·exact hm _ (by omega)
   ·exact hm _ hs
  ·rcases hx with rfl|rfl|rfl|rfl|rfl|rfl|rfl
   ·exact hm _ (by omega)
   ·exact hi _
   ·exact hi _
   ·exact hm _ (by omega)
   ·exact hm _ (by omega)
   ·exact hm _ hs
   ·exact hm _ h4'
set_option maxRecDepth 100000 in
set_option maxHeartbeats 16000000 in
theorem claimPrint_any (t:TokM) (A:Option Addr) (c:Nat) (W:World) (hs:SliceN W (.slice A t.sc.length c) t.sc) (hn:t.sc.length≤1000000) (ht:(textN t.sc).length≤1000000000) (hm:Marks W) (z1:t.iss.size≤1000000000) (z2:t.jti.size≤1000000000) (z3:t.cid.size≤1000000000) (z4:t.sub.size≤1000000000):
  Calls Tryz.prog 23 #[.agg #[.string t.iss,.string t.jti,.string t.cid,.string t.sub,.slice A t.sc.length c,.int .i64 t.iat,.int .i64 t.exp]] W (PrintC W t):=by
 have hCK:=fun X (hX:Below W.heap.size W X)=>claimCheck_any t A c X (hs.below hX) (by omega)
 have hMI:=fun h=>tokJ_mild (t:=t) h ht
 have hPRJ:tokJ t= .mk 5 0 ⟨#[]⟩ ([tJ t.cid,nJ t.exp,nJ t.iat,tJ t.iss,tJ t.jti,tJ (scTx t.sc)]++if t.sub.size=0 then[]else[tJ t.sub]) ([nCid,nExp,nIat,nIss,nJti,nScope]++if t.sub.size=0 then[]else[nSub]):=rfl
 have HPS:=Lib.hid (fun X (hX:Below W.heap.size W X)=>printS_any _ t.sc X (hs.below hX) hn ht)
 unfold PrintC
 obtain⟨PJ,hPJ⟩: ∃x,x=tokJ t:=⟨_,rfl⟩
 rw[←hPJ]at hMI hPRJ⊢
 obtain⟨ok,hok⟩: ∃b,b=tokOk t:=⟨_,rfl⟩
 have hCK2: ∀X,Below W.heap.size W X→Calls Tryz.prog 24 #[.agg #[.string t.iss,.string t.jti,.string t.cid,.string t.sub,.slice A t.sc.length c,.int .i64 t.iat,.int .i64 t.exp]] X (CkC X ok):=fun X hX=>by rw[hok];exact hCK X hX
 rw[←hok]at hMI⊢
 obtain⟨tx,htx⟩: ∃x,x=scTx t.sc:=⟨_,rfl⟩
 have htz:tx.size≤1000000000:=by rw[htx];unfold scTx;rw[size_toS];exact ht
 rw[←htx]at hPRJ
 rw[show toS (textN t.sc)=tx from htx.symm]at HPS
 obtain⟨i,j,d,s,ns,a,b⟩:=t
 dsimp only at hCK2 hPRJ HPS z1 z2 z3 z4⊢
 obtain⟨n,hnn⟩: ∃n,n=ns.length:=⟨_,rfl⟩
 rw[←hnn]at hCK2 HPS⊢
 have hB1:=belowAlloc W (.cells #[.string i,.string j,.string d,.string s,.slice A n c,.int .i64 a,.int .i64 b] 42)
 have hbk:Blk (W.alloc (.cells #[.string i,.string j,.string d,.string s,.slice A n c,.int .i64 a,.int .i64 b] 42)) W.heap.size 42 [.string i,.string j,.string d,.string s,.slice A n c,.int .i64 a,.int .i64 b]:=heapAtC W rfl [.string i,.string j,.string d,.string s,.slice A n c,.int .i64 a,.int .i64 b] _
 have hz1:(W.alloc (.cells #[.string i,.string j,.string d,.string s,.slice A n c,.int .i64 a,.int .i64 b] 42)).heap.size=W.heap.size+1:=by simp
 have HCK:=Lib.hid (hCK2 _ hB1)
 have HB1:=Lib.hid hB1
 have HC:Hid (∀X,Below (W.heap.size+1) (W.alloc (.cells #[.string i,.string j,.string d,.string s,.slice A n c,.int .i64 a,.int .i64 b] 42)) X→X.cell? ⟨W.heap.size,0,none⟩=some (.string i)∧X.cell? ⟨W.heap.size,1,none⟩=some (.string j)∧X.cell? ⟨W.heap.size,2,none⟩=some (.string d)∧X.cell? ⟨W.heap.size,3,none⟩=some (.string s)∧X.cell? ⟨W.heap.size,4,none⟩=some (.slice A n c)∧X.cell? ⟨W.heap.size,5,none⟩=some (.int .i64 a)∧X.cell? ⟨W.heap.size,6,none⟩=some (.int .i64 b)):=Lib.hid (fun X hX=>by
  have:=hbk.below hX (Nat.lt_succ_self _)
  exact⟨this.cell 0,this.cell 1,this.cell 2,this.cell 3,this.cell 4,this.cell 5,this.cell 6⟩)
 have HMI:=Lib.hid hMI
 have HPRJ:=Lib.hid hPRJ
 have HM:=Lib.hid hm
 have HTT:=Lib.hid text_any
 have Hdx:=Lib.hid (fun X=>text_any d X (by omega))
 have Hbx:=Lib.hid (fun X=>int_any b X)
 have Hax:=Lib.hid (fun X=>int_any a X)
 have Hix:=Lib.hid (fun X=>text_any i X (by omega))
 have Hjx:=Lib.hid (fun X=>text_any j X (by omega))
 have Htx:=Lib.hid (fun X=>text_any tx X (by omega))
 have Hsx:=Lib.hid (fun X=>text_any s X (by omega))
 have HFL:=Lib.hid (fun X S=>flat6 i j d tx a b X S (by omega) (by omega) (by omega) (by omega))
 have HTS:=Lib.hid (fun X S=>tJ_rep s X S (by omega))
 have HZ1:=Lib.hid hz1
 clear hCK hCK2 hMI hPRJ hB1 hbk hz1 hok htx htz hPJ hs hn ht hm hnn z1 z2 z3
 go_enter Tryz.func23,Tryz.ntmps23
 go_wp2_with fail
 refine HCK.out.mono ?_
 rintro e w1 ⟨rfl,hb⟩
 have HB2:Hid (Below (W.heap.size+1) (W.alloc (.cells #[.string i,.string j,.string d,.string s,.slice A n c,.int .i64 a,.int .i64 b] 42)) w1):=Lib.hid (by have:=hb;rwa [HZ1.out]at this)
 clear hb HCK
 cases ok with
 |false=>
  rw[show errV (if false=true then 0 else 90)= .iface 95 (.int .i64 90)from rfl]
  go_wp2
  go_ret2
  exact⟨rfl,HB1.out.trans (HB2.out.mono (Nat.le_succ _))⟩
 |true=>
 rw[show errV (if true=true then 0 else 90)= .nilIface from rfl]
 have hV:=HC.out _ (HB2.out.drew)
 go_wp2_with fail
 refine wp_region_held_drew (S:=fun X=>X.cell? ⟨W.heap.size,0,none⟩=some (.string i)∧X.cell? ⟨W.heap.size,1,none⟩=some (.string j)∧X.cell? ⟨W.heap.size,2,none⟩=some (.string d)∧X.cell? ⟨W.heap.size,3,none⟩=some (.string s)∧X.cell? ⟨W.heap.size,4,none⟩=some (.slice A n c)∧X.cell? ⟨W.heap.size,5,none⟩=some (.int .i64 a)∧X.cell? ⟨W.heap.size,6,none⟩=some (.int .i64 b)) (by kernel_rfl) hV (fun hHeld=> ?_)
 have hH:=hHeld
 have HB2d:=Lib.hid HB2.out.drew
 clear hHeld hV
 refine rgT 0 ?_
 try simp only[rgS]
 refine rgT 4 ?_
 try simp only[rgS]
 refine rgT 8 ?_
 try simp only[rgS]
 refine rgT 12 ?_
 try simp only[rgS]
 refine rgT 16 ?_
 try simp only[rgS]
 refine rgT 20 ?_
 try simp only[rgS]
 refine rgT 1 ?_
 try simp only[rgS]
 refine rgT 5 ?_
 try simp only[rgS]
 refine rgT 9 ?_
 try simp only[rgS]
 refine rgT 13 ?_
 try simp only[rgS]
 refine rgT 17 ?_
 try simp only[rgS]
 refine rgT 21 ?_
 try simp only[rgS]
 refine rgO 2 (fun K hK=> ?_)
 go_simp
 go_at_call 18
 (with_reducible refine(Hdx.out _).mono ?_)
 rintro e w9 ⟨rfl,hb⟩
 have HB3:=Lib.hid (below_alloc2 HB2d.out hb)
 refine hK.out _ _ (HC.out _ HB3.out) (fun hH9=> ?_)
 clear hK K hb hH
 have hH:=hH9
 clear hH9
 try simp only[rgS]
 refine rgT 3 ?_
 try simp only[rgS]
 refine rgO 6 (fun K hK=> ?_)
 go_simp
 go_at_call 19
 (with_reducible refine(Hbx.out _).mono ?_)
 rintro e w9 ⟨rfl,hb⟩
 have HB4:=Lib.hid (below_alloc2 HB3.out hb)
 refine hK.out _ _ (HC.out _ HB4.out) (fun hH9=> ?_)
 clear hK K hb hH
 have hH:=hH9
 clear hH9
 try simp only[rgS]
 refine rgT 7 ?_
 try simp only[rgS]
 refine rgO 10 (fun K hK=> ?_)
 go_simp
 go_at_call 19
 (with_reducible refine(Hax.out _).mono ?_)
 rintro e w9 ⟨rfl,hb⟩
 have HB5:=Lib.hid (below_alloc2 HB4.out hb)
 refine hK.out _ _ (HC.out _ HB5.out) (fun hH9=> ?_)
 clear hK K hb hH
 have hH:=hH9
 clear hH9
 try simp only[rgS]
 refine rgT 11 ?_
 try simp only[rgS]
 refine rgO 14 (fun K hK=> ?_)
 go_simp
 go_at_call 18
 (with_reducible refine(Hix.out _).mono ?_)
 rintro e w9 ⟨rfl,hb⟩
 have HB6:=Lib.hid (below_alloc2 HB5.out hb)
 refine hK.out _ _ (HC.out _ HB6.out) (fun hH9=> ?_)
 clear hK K hb hH
 have hH:=hH9
 clear hH9
 try simp only[rgS]
 refine rgT 15 ?_
 try simp only[rgS]
 refine rgO 18 (fun K hK=> ?_)
 go_simp
 go_at_call 18
 (with_reducible refine(Hjx.out _).mono ?_)
 rintro e w9 ⟨rfl,hb⟩
 have HB7:=Lib.hid (below_alloc2 HB6.out hb)
 refine hK.out _ _ (HC.out _ HB7.out) (fun hH9=> ?_)
 clear hK K hb hH
 have hH:=hH9
 clear hH9
 try simp only[rgS]
 refine rgT 19 ?_
 try simp only[rgS]
 refine rgO 22 (fun K hK=> ?_)
 go_simp
 go_at_call 55
 refine(HPS.out _ (HB1.out.trans (HB7.out.mono (Nat.le_succ _)))).mono ?_
 rintro e w9 ⟨rfl,hb⟩
 have HB8:=Lib.hid (below_alloc2 HB7.out hb)
 refine hK.out _ _ (HC.out _ HB8.out) (fun hH9=> ?_)
 clear hK K hb hH
 have hH:=hH9
 clear hH9
 try simp only[rgS]
 refine rgO 23 (fun K hK=> ?_)
 go_simp
 go_at_call 18
 (with_reducible refine(Htx.out _).mono ?_)
 rintro e w9 ⟨rfl,hb⟩
 have HB9:=Lib.hid (below_alloc2 HB8.out hb)
 refine hK.out _ _ (HC.out _ HB9.out) (fun hH9=> ?_)
 clear hK K hb hH
 have hH:=hH9
 clear hH9
 try simp only[rgS]
 refine rgT 24 ?_
 try simp only[rgS]
 refine rgO 25 (fun K hK=> ?_)
 rw[if_pos (by kernel_rfl)]
 refine wp_slice_six _ rfl i j d tx a b (by kernel_rfl) ?_
 refine hK.out _ _ (HC.out _ (below_alloc2 HB9.out (belowAlloc _ _))) (fun hH9=> ?_)
 have hown:=own6 i j d tx a b w9
 have HB20:=Lib.hid (below_alloc2 HB9.out (belowAlloc w9 (.cells (mbT nCid d++mbI nExp b++mbI nIat a++mbT nIss i++mbT nJti j++mbT nScope tx).toArray 30)))
 have HLE:=Lib.hid (HB9.out.size)
 clear hK K hH
 obtain⟨gb,hgb⟩: ∃g,g=w9.heap.size:=⟨_,rfl⟩
 obtain⟨wA,hwA⟩: ∃X,X=w9.alloc (.cells (mbT nCid d++mbI nExp b++mbI nIat a++mbT nIss i++mbT nJti j++mbT nScope tx).toArray 30):=⟨_,rfl⟩
 rw[←hwA,←hgb]at hown
 rw[←hwA]at HB20 hH9⊢
 rw[←hgb]
 have HGB:Hid (W.heap.size+1≤gb):=Lib.hid (by rw[hgb];have:=HLE.out;simp at this;omega)
 have HOW:=Lib.hid hown
 clear hwA hgb hown
 try simp only[rgS]
 refine rgT 26 ?_
 try simp only[rgS]
 refine wpAnyH_done (by kernel_rfl) ?_ _
 obtain⟨q0,q1,q2,q3,q4,q5,q6⟩:=hH9
 have HBA:=Lib.hid (HB1.out.trans (HB20.out.mono (Nat.le_succ _)))
 by_cases hz:s.size=0
 ·obtain rfl:=str_nil hz
  have HJ:Hid (PJ= .mk 5 0 ⟨#[]⟩ [tJ d,nJ b,nJ a,tJ i,tJ j,tJ tx] [nCid,nExp,nIat,nIss,nJti,nScope]):=Lib.hid (by rw[HPRJ.out];rfl)
  have HOB:=Lib.hid (obj_all (tokMs6 i j d tx a b) (ms6_ok i j d tx a b) wA _ (zs6 i j d tx a b) (fun _=>False) (fun _ h=>h.elim) (HFL.out _ _) (own_row HOW.out rfl))
  rw[puts6]at HOB
  clear hz
  go_wp2_with fail
  refine HOB.out.mono ?_
  rintro e wB ⟨v',rfl,hr,hb⟩
  have hrj:=RepS.toJ _ _ hr
  have HBB:=Lib.hid (HBA.out.trans (hb.mono HBA.out.size))
  rw[←HJ.out]at hrj
  have HPR:=Lib.hid (printJ_any PJ v' wB hrj (HMI.out (by first|rfl|trivial)) (HM.out.below HBB.out))
  obtain⟨y0,y1,y2,yA,yp,yc,yK,yq,yd,rfl⟩:=hrj.form
  clear hr hb hrj HOB
  go_wp2_with fail
  refine HPR.out.mono ?_
  rintro e wC ⟨rfl,hby,hb⟩
  have HPT:=Lib.hid hby
  have HBC:=Lib.hid (HBB.out.trans (hb.mono HBB.out.size))
  obtain⟨ev,hev⟩: ∃v,v=(if(printJ PJ).2=0 then Value.nilIface else .iface 95 (.int .i64 (printJ PJ).2)):=⟨_,rfl⟩
  rw[←hev]
  have HEV:=Lib.hid hev
  obtain⟨tt,htt⟩: ∃x,x=toS (printJ PJ).1:=⟨_,rfl⟩
  rw[←htt]
  have HTX:=Lib.hid htt
  clear hby hb hev htt HPR
  go_wp2
  go_ret2
  exact⟨by rw[HEV.out,HTX.out];rfl,HPT.out,HBC.out⟩
 ·have hne:=str_not_nil hz
  have hne3:=str_not_empty hz
  have HJ:Hid (PJ= .mk 5 0 ⟨#[]⟩ [tJ d,nJ b,nJ a,tJ i,tJ j,tJ tx,tJ s] [nCid,nExp,nIat,nIss,nJti,nScope,nSub]):=Lib.hid (by rw[HPRJ.out,if_neg hz,if_neg hz];rfl)
  obtain⟨iM,hM,hM0,hM1,hM2⟩:=info_parts infoMp
  clear hz
  go_wp2_with(first
   |(go_at_call 18;(with_reducible refine(Hsx.out _).mono ?_);rintro e wS ⟨rfl,hb⟩;have HBS:=Lib.hid (HBA.out.trans (hb.mono HBA.out.size));have HOS:=Lib.hid (scOwn_below HOW.out hb);have hgs:=(HOS.out.lt gb rfl).2;clear hb)
   |(at_builtin;refine wpList_append_own _ rfl _ _ 25 rfl gb 30 iM (.agg #[.string ⟨#[]⟩,.int .i64 0,.int .i64 0,.string ⟨#[]⟩,.slice none 0 0,.slice none 0 0]) 6 96 Tryz.underlying25 hM hM0 hM1 hM2 rfl (by decide) _ 6 _ rfl (HOS.out.alloc _) ⟨wS.heap.size,0,none⟩ 1 1 [.string ⟨#[115,117,98]⟩,.int .i64 3,.int .i64 0,.string s,.slice none 0 0,.slice none 0 0] rfl rfl (cell_lit6 _ _ _) (by simp[Value.oneCell']) (by unfold maxLen;omega) (by omega) (by simp;omega) ?_;intro v' w4 hown4 hgrow4 hnil4;have HO4:=Lib.hid hown4;have HG4:=Lib.hid hgrow4;clear hown4 hgrow4 hnil4)
   |(go_at_call 12;fail))
  have hrow:RowM w4 v' (zs7 i j d tx s a b):=own_row (zs:=zs7 i j d tx s a b) HO4.out rfl
  have HBW:=Lib.hid ((HBS.out.alloc HBS.out.size (.cells #[.string ⟨#[115,117,98]⟩,.int .i64 3,.int .i64 0,.string s,.slice none 0 0,.slice none 0 0] 30)).grown HG4.out (by have:=HBS.out.size;simp;omega) (fun q hq=>by have:=(HOS.out.lt q hq).1;have:=HGB.out;omega))
  have HOB:=Lib.hid (obj_all (tokMs7 i j d tx s a b) (ms7_ok i j d tx s a b) w4 v' (zs7 i j d tx s a b) (fun _=>False) (fun _ h=>h.elim) (flat7 (HFL.out _ _) (HTS.out _ _)) hrow)
  rw[puts7]at HOB
  clear hrow
  refine HOB.out.mono ?_
  rintro e wB ⟨v2,rfl,hr,hb⟩
  have hrj:=RepS.toJ _ _ hr
  have HBB:=Lib.hid (HBW.out.trans (hb.mono HBW.out.size))
  rw[←HJ.out]at hrj
  have HPR:=Lib.hid (printJ_any PJ v2 wB hrj (HMI.out (by first|rfl|trivial)) (HM.out.below HBB.out))
  obtain⟨y0,y1,y2,yA,yp,yc,yK,yq,yd,rfl⟩:=hrj.form
  clear hr hb hrj HOB
  go_wp2_with fail
  refine HPR.out.mono ?_
  rintro e wC ⟨rfl,hby,hb⟩
  have HPT:=Lib.hid hby
  have HBC:=Lib.hid (HBB.out.trans (hb.mono HBB.out.size))
  obtain⟨ev,hev⟩: ∃v,v=(if(printJ PJ).2=0 then Value.nilIface else .iface 95 (.int .i64 (printJ PJ).2)):=⟨_,rfl⟩
  rw[←hev]
  have HEV:=Lib.hid hev
  obtain⟨tt,htt⟩: ∃x,x=toS (printJ PJ).1:=⟨_,rfl⟩
  rw[←htt]
  have HTX:=Lib.hid htt
  clear hby hb hev htt HPR
  go_wp2
  go_ret2
  exact⟨by rw[HEV.out,HTX.out];rfl,HPT.out,HBC.out⟩
end Go.Proofs.YtjfgmgkhinehaaaGreatDoor
namespace Go.Proofs.YtjfgmgkhinehaaaGreatDoor
open Go Go.RowKit
theorem asciiU: ∀(l:List Int),(∀c∈l,0≤c∧c<128)→badU l=l.length
 |[],_=>rfl
 |c::r,h=>by
  have hc:=h c (by simp)
  have hp:putL c=[c]:=putL_one hc.1 hc.2
  have hn:nxL (c::r)=(c,1):=by
   have:=nx_put (n:=c) (by rw[hp];simp) r
   rw[hp]at this
   exact this
  rw[badU_go (by rw[hn];show c≠ -1;omega),hn]
  show 1+badU r=_
  rw[asciiU r (fun x hx=>h x (List.mem_cons_of_mem _ hx)),List.length_cons];omega
def Asc (s:ByteArray):Prop:= ∀c∈strL s,32≤c∧c<128
theorem Asc.utf {s:ByteArray} (h:Asc s):utfS s=true:=by
 unfold utfS
 exact decide_eq_true (asciiU _ fun c hc=>by have:=h c hc;omega)
theorem Asc.quote {s:ByteArray} (h:Asc s):(quoteL (strL s)).length≤2*s.size+2:=by
 rw[quoteL_is]
 have key: ∀xs:List Int,(∀c∈xs,32≤c∧c<128)→(qB xs).length≤2*xs.length:=fun xs=>by
  induction xs with
  |nil=>intro _;exact Nat.le_refl _
  |cons c r ih=>
   intro h
   have hc:=h c (by simp)
   have hr:=ih (fun x hx=>h x (List.mem_cons_of_mem _ hx))
   rw[qB_cons,List.length_append,List.length_cons]
   have:(qOne c).length≤2:=by
    unfold qOne
    rw[if_neg (by omega)]
    split<;>simp
   omega
 have:=key _ h
 simp only[List.length_cons,List.length_append,List.length_nil]
 rw[length_strL]at this
 omega
theorem vis_asc {s:ByteArray} (h:visL (strL s)=true):Asc s:=by
 unfold visL at h
 rw[Bool.and_eq_true,List.all_eq_true]at h
 exact fun c hc=>by have:=of_decide_eq_true (h.2 c hc);omega
theorem nameB_asc {s:ByteArray} (h:nameB (strL s)=true):Asc s:=by
 unfold nameB at h
 rw[Bool.and_eq_true,List.all_eq_true]at h
 exact fun c hc=>by
  have:=h.2 c hc
  unfold okB at this
  have:=of_decide_eq_true this
  omega
theorem textG_asc: ∀(l:List ByteArray) (f:Bool),(∀x∈l,nameB (strL x)=true)→ ∀c∈textG f l,32≤c∧c<128
 |[],_,_,c,h=>by simp[textG]at h
 |x::r,f,hl,c,h=>by
  rw[textG]at h
  rcases List.mem_append.1 h with h|h
  ·rcases List.mem_append.1 h with h|h
   ·split at h
    ·cases h
    ·rw[List.mem_singleton.1 h];omega
   ·exact nameB_asc (hl x List.mem_cons_self) c h
  ·exact textG_asc r false (fun y hy=>hl y (List.mem_cons_of_mem _ hy)) c h
theorem scTx_asc {l:List ByteArray} (h:checkN l=true):Asc (scTx l):=by
 unfold Asc scTx textN
 rw[strL_toS (textG_bytes l true)]
 exact textG_asc l true (check_parts h).2.1
theorem scTx_len {l:List ByteArray} (h:checkN l=true):(scTx l).size≤600:=by
 unfold scTx
 rw[size_toS]
 obtain⟨-,h2,h3⟩:=check_parts h
 have:=textG_len l true 32 (fun x hx=>name_size (h2 x hx))
 show(textG true l).length≤_
 have h4:l.length*(32+1)≤16*33:=Nat.mul_le_mul_right _ h3
 omega
theorem tok_parts {t:TokM} (h:tokOk t=true):visL (strL t.iss)=true∧visL (strL t.jti)=true∧visL (strL t.cid)=true∧(t.sub.size=0∨nameB (strL t.sub)=true)∧checkN t.sc=true∧0≤t.iat∧t.iat≤t.exp∧t.exp≤2199023255552:=by
 unfold tokOk textsOk at h
 simp only[Bool.and_eq_true]at h
 obtain⟨⟨⟨⟨⟨h1,h2⟩,h3⟩,h4⟩,h5⟩,h6⟩:=h
 refine⟨h1,h2,h3,?_,h5,of_decide_eq_true h6⟩
 unfold subOk at h4
 rw[Bool.or_eq_true]at h4
 rcases h4 with h4|h4
 ·exact .inl (of_decide_eq_true h4)
 ·exact .inr h4
theorem sub_small {s:ByteArray} (h:nameB (strL s)=true):s.size≤32:=by
 have:=(nameB_len h).2
 rwa [length_strL]at this
theorem get_tok {t:TokM}:getJ (tokJ t) nIss=some (tJ t.iss)∧getJ (tokJ t) nJti=some (tJ t.jti)∧getJ (tokJ t) nCid=some (tJ t.cid)∧getJ (tokJ t) nScope=some (tJ (scTx t.sc))∧getJ (tokJ t) nIat=some (nJ t.iat)∧getJ (tokJ t) nExp=some (nJ t.exp)∧getJ (tokJ t) nSub=(if t.sub.size=0 then none else some (tJ t.sub))∧(tokJ t).k.all (hasN allNames)=true∧hasN (tokJ t).k nSub=decide (t.sub.size≠0):=by
 obtain⟨i,j,d,s,ns,a,b⟩:=t
 unfold tokJ
 dsimp only
 by_cases h:s.size=0
 ·rw[if_pos h,if_pos h,if_pos h,decide_eq_false (fun h2=>h2 h)]
  exact⟨by kernel_rfl,by kernel_rfl,by kernel_rfl,by kernel_rfl,by kernel_rfl,by kernel_rfl,by kernel_rfl,by kernel_rfl,by kernel_rfl⟩
 ·rw[if_neg h,if_neg h,if_neg h,decide_eq_true h]
  exact⟨by kernel_rfl,by kernel_rfl,by kernel_rfl,by kernel_rfl,by kernel_rfl,by kernel_rfl,by kernel_rfl,by kernel_rfl,by kernel_rfl⟩
theorem askT_of {j:J} {n s:ByteArray} (h:getJ j n=some (tJ s)):askT j n=(s,0):=by unfold askT membM membO;rw[h];rfl
theorem askI_of {j:J} {n:ByteArray} {x:Int} (h:getJ j n=some (nJ x)):askI j n=(x,0):=by unfold askI membM membO;rw[h];rfl
theorem read_tokJ {t:TokM} (h:tokOk t=true):readT (tokJ t,0, -1)=some t:=by
 obtain⟨h1,h2,h3,h4,h5,h6,h7,h8⟩:=tok_parts h
 obtain⟨g1,g2,g3,g4,g5,g6,g7,g8,g9⟩:=get_tok (t:=t)
 obtain⟨b1,b2,b3⟩:=back_text h5
 have a1:=askT_of g1
 have a2:=askT_of g2
 have a3:=askT_of g3
 have a4:=askT_of g4
 have a5:=askI_of g5
 have a6:=askI_of g6
 have aS:askS (tokJ t) nScope=(t.sc,0):=by
  unfold askS
  rw[a4,if_neg (by simp)]
  show(if okW (textW (scTx t.sc))=true then(parseN (scTx t.sc),(0:Int))else([],90))=_
  unfold scTx
  rw[if_pos b1,b2]
 have aU:askU (tokJ t) nSub=(t.sub,0):=by
  unfold askU
  rw[g9]
  by_cases hz:t.sub.size=0
  ·rw[decide_eq_false (fun h=>h hz),if_pos rfl,str_nil hz]
  ·rw[decide_eq_true hz,if_neg (by decide)]
   have hn:=h4.resolve_left hz
   have a7:askT (tokJ t) nSub=(t.sub,0):=askT_of (by rw[g7,if_neg hz])
   rw[a7,if_neg (fun h=>by rw[hn]at h;cases h.2)]
 have hr:readTok (tokJ t)=some t:=by
  unfold readTok
  rw[a1,a2,a3,aU,aS,a5,a6]
  rw[if_pos ⟨rfl,rfl,rfl,rfl,rfl,rfl,rfl,g8⟩]
 unfold readT
 rw[if_neg (by simp)]
 show(match readTok (tokJ t)with|some t=>if tokOk t=true then some t else none|none=>none)=_
 rw[hr]
 show(if tokOk t=true then some t else none)=_
 rw[if_pos h]
theorem textL_t (s:ByteArray):textL (tJ s)=quoteL (strL s):=by rw[tJ,textL];rfl
theorem textL_n (n:Int):textL (nJ n)=prL n:=by rw[nJ,textL];rfl
theorem rt_t {s:ByteArray} (h:utfS s=true):Rt (tJ s):= .mk 3 0 s [] [] (by unfold cleanF;simp) (fun h=>by cases h) (.inr (.inr (by unfold leafR;rw[if_neg (by decide),if_neg (by decide),if_neg (by decide),if_pos rfl];exact h))) (by simp)
theorem rt_n {n:Int} (h0:0≤n) (h1:n≤2199023255552):Rt (nJ n):= .mk 2 n ⟨#[]⟩ [] [] (by unfold cleanF;simp) (fun h=>by cases h) (.inr (.inr (by unfold leafR;rw[if_neg (by decide),if_neg (by decide),if_pos rfl,decide_eq_true (by omega),decide_eq_true (by omega)];rfl))) (by simp)
theorem utf_names:utfS nCid=true∧utfS nExp=true∧utfS nIat=true∧utfS nIss=true∧utfS nJti=true∧utfS nScope=true∧utfS nSub=true:=by decide+kernel
theorem less_names:Op.bytesLess nCid.toList nExp.toList=true∧Op.bytesLess nExp.toList nIat.toList=true∧Op.bytesLess nIat.toList nIss.toList=true∧Op.bytesLess nIss.toList nJti.toList=true∧Op.bytesLess nJti.toList nScope.toList=true∧Op.bytesLess nScope.toList nSub.toList=true:=by decide+kernel
theorem tok_text (t:TokM):textL (tokJ t)=[123]++((quoteL (strL nCid)++[58]++quoteL (strL t.cid))++([44]++quoteL (strL nExp)++[58]++prL t.exp)++([44]++quoteL (strL nIat)++[58]++prL t.iat)++([44]++quoteL (strL nIss)++[58]++quoteL (strL t.iss))++([44]++quoteL (strL nJti)++[58]++quoteL (strL t.jti))++([44]++quoteL (strL nScope)++[58]++quoteL (strL (scTx t.sc)))++(if t.sub.size=0 then[]else[44]++quoteL (strL nSub)++[58]++quoteL (strL t.sub)))++[125]:=by
 rw[tokJ,textL,if_neg (by decide),if_neg (by decide),if_neg (by decide),if_neg (by decide),if_neg (by decide),if_pos rfl]
 by_cases hz:t.sub.size=0
 ·rw[if_pos hz,if_pos hz,if_pos hz]
  simp[itemsL,textL_t,textL_n]
 ·rw[if_neg hz,if_neg hz,if_neg hz]
  simp[itemsL,textL_t,textL_n]
theorem tok_right {t:TokM} (h:tokOk t=true):(rgt (tokJ t) 1 256).1=true∧(textL (tokJ t)).length≤4096:=by
 obtain⟨h1,h2,h3,h4,h5,h6,h7,h8⟩:=tok_parts h
 have v1:=vis_asc h1
 have v2:=vis_asc h2
 have v3:=vis_asc h3
 have v5:=scTx_asc h5
 have z1:=visL_len h1
 have z2:=visL_len h2
 have z3:=visL_len h3
 have z5:=scTx_len h5
 obtain⟨u1,u2,u3,u4,u5,u6,u7⟩:=utf_names
 obtain⟨l1,l2,l3,l4,l5,l6⟩:=less_names
 have p1:=(prL_bounds t.exp (by omega) (by omega)).2
 have p2:=(prL_bounds t.iat (by omega) (by omega)).2
 constructor
 ·rw[right_iff]
  unfold tokJ
  by_cases hz:t.sub.size=0
  ·rw[if_pos hz,if_pos hz]
   refine⟨.mk _ _ _ _ _ (by show cleanF 5 0 ⟨#[]⟩ 6 6=true;decide+kernel) (fun _=>⟨rfl,?_⟩) (.inr (.inl rfl)) (fun x hx=> ?_),?_,?_⟩
   ·show rnL none [nCid,nExp,nIat,nIss,nJti,nScope]=true
    rw[rnL_cons,rnL_cons,rnL_cons,rnL_cons,rnL_cons,rnL_cons,rnL_nil,u1,u2,u3,u4,u5,u6]
    simp[l1,l2,l3,l4,l5]
   ·simp at hx
    rcases hx with rfl|rfl|rfl|rfl|rfl|rfl
    ·exact rt_t v3.utf
    ·exact rt_n (by omega) h8
    ·exact rt_n h6 (by omega)
    ·exact rt_t v1.utf
    ·exact rt_t v2.utf
    ·exact rt_t v5.utf
   ·simp[szJ,szLs,tJ,nJ]
   ·simp[dpJ,dpLs,tJ,nJ]
  ·rw[if_neg hz,if_neg hz]
   have hn:=h4.resolve_left hz
   refine⟨.mk _ _ _ _ _ (by show cleanF 5 0 ⟨#[]⟩ 7 7=true;decide+kernel) (fun _=>⟨rfl,?_⟩) (.inr (.inl rfl)) (fun x hx=> ?_),?_,?_⟩
   ·show rnL none [nCid,nExp,nIat,nIss,nJti,nScope,nSub]=true
    rw[rnL_cons,rnL_cons,rnL_cons,rnL_cons,rnL_cons,rnL_cons,rnL_cons,rnL_nil,u1,u2,u3,u4,u5,u6,u7]
    simp[l1,l2,l3,l4,l5,l6]
   ·simp at hx
    rcases hx with rfl|rfl|rfl|rfl|rfl|rfl|rfl
    ·exact rt_t v3.utf
    ·exact rt_n (by omega) h8
    ·exact rt_n h6 (by omega)
    ·exact rt_t v1.utf
    ·exact rt_t v2.utf
    ·exact rt_t v5.utf
    ·exact rt_t (nameB_asc hn).utf
   ·simp[szJ,szLs,tJ,nJ]
   ·simp[dpJ,dpLs,tJ,nJ]
 ·rw[tok_text]
  have q1:=v1.quote
  have q2:=v2.quote
  have q3:=v3.quote
  have q5:=v5.quote
  have n1:(quoteL (strL nCid)).length≤20:=by decide+kernel
  have n2:(quoteL (strL nExp)).length≤20:=by decide+kernel
  have n3:(quoteL (strL nIat)).length≤20:=by decide+kernel
  have n4:(quoteL (strL nIss)).length≤20:=by decide+kernel
  have n5:(quoteL (strL nJti)).length≤20:=by decide+kernel
  have n6:(quoteL (strL nScope)).length≤20:=by decide+kernel
  have n7:(quoteL (strL nSub)).length≤20:=by decide+kernel
  by_cases hz:t.sub.size=0
  ·rw[if_pos hz]
   simp only[List.length_append,List.length_cons,List.length_nil]
   omega
  ·rw[if_neg hz]
   have q7:=(nameB_asc (h4.resolve_left hz)).quote
   have z7:=sub_small (h4.resolve_left hz)
   simp only[List.length_append,List.length_cons,List.length_nil]
   omega
theorem print_tokJ {t:TokM} (h:tokOk t=true):printJ (tokJ t)=(textL (tokJ t),0):=by
 obtain⟨h1,h2⟩:=tok_right h
 unfold printJ
 rw[if_neg (by rw[h1];decide),if_neg (by omega)]
theorem parse_tokJ {t:TokM} (h:tokOk t=true):readT (parsedL (textL (tokJ t)))=some t:=by
 obtain⟨h1,h2⟩:=tok_right h
 rw[parsed_text _ h1 h2]
 exact read_tokJ h
end Go.Proofs.YtjfgmgkhinehaaaGreatDoor
namespace Go.Proofs.YtjfgmgkhinehaaaGreatDoor
open Go Go.RowKit
def GrC (W:World) (G:Bool) (e:Ending) (w':World):Prop:= ∃g:Bool,e= .returned (.bool g)∧(g=false→G=false)∧Below W.heap.size W w'
set_option maxRecDepth 100000 in
set_option maxHeartbeats 8000000 in
theorem refGreatT_any (t:TokM) (A:Option Addr) (c:Nat) (W:World) (hr:RawN W (.slice A t.sc.length c) t.sc):
  Calls Tryz.prog 22 #[.agg #[.string t.iss,.string t.jti,.string t.cid,.string t.sub,.slice A t.sc.length c,.int .i64 t.iat,.int .i64 t.exp]] W (GrC W (greatN t.sc)):=by
 obtain⟨i,j,d,s,ns,a,b⟩:=t
 dsimp only at hr⊢
 have hB1:=belowAlloc W (.cells #[.string i,.string j,.string d,.string s,.slice A ns.length c,.int .i64 a,.int .i64 b] 43)
 have HG:=Lib.hid (scRefGreat_any _ ns _ (hr.below hB1))
 have HB1:=Lib.hid hB1
 obtain⟨n,hnn⟩: ∃n,n=ns.length:=⟨_,rfl⟩
 rw[←hnn]at HG HB1⊢
 obtain⟨g,hg⟩: ∃g,g=greatN ns:=⟨_,rfl⟩
 rw[←hg]at HG⊢
 clear hr hB1 hnn hg
 by_cases c1:(2000:Int)<wrap64 ((i.size:Int)+(j.size:Int))
 case pos=>
  go_enter Tryz.func22,Tryz.ntmps22
  go_wp2_with fail
  go_ret
  exact⟨true,rfl,(fun h=>by cases h),HB1.out⟩
 case neg=>
 by_cases c2:(2000:Int)<wrap64 ((d.size:Int)+(s.size:Int))
 case pos=>
  go_enter Tryz.func22,Tryz.ntmps22
  go_wp2_with fail
  go_ret
  exact⟨true,rfl,(fun h=>by cases h),HB1.out⟩
 case neg=>
 go_enter Tryz.func22,Tryz.ntmps22
 go_wp2_with fail
 refine HG.out.mono ?_
 rintro e w2 ⟨rfl,rfl⟩
 go_wp2
 go_ret
 exact⟨g,rfl,id,HB1.out⟩
set_option maxRecDepth 100000 in
set_option maxHeartbeats 8000000 in
theorem claimPrint_bad (t:TokM) (A:Option Addr) (c:Nat) (W:World) (hs:SliceN W (.slice A t.sc.length c) t.sc) (hn:t.sc.length≤1000000) (h:tokOk t=false):
  Calls Tryz.prog 23 #[.agg #[.string t.iss,.string t.jti,.string t.cid,.string t.sub,.slice A t.sc.length c,.int .i64 t.iat,.int .i64 t.exp]] W (PrintC W t):=by
 have hCK:=fun X (hX:Below W.heap.size W X)=>claimCheck_any t A c X (hs.below hX) (by omega)
 rw[h]at hCK
 suffices hh:Calls Tryz.prog 23 #[.agg #[.string t.iss,.string t.jti,.string t.cid,.string t.sub,.slice A t.sc.length c,.int .i64 t.iat,.int .i64 t.exp]] W (fun e w'=>e= .returned (.tuple #[.string ⟨#[]⟩,.iface 95 (.int .i64 90)])∧Below W.heap.size W w')from hh.mono (fun e w' hq=> .inr ⟨h,hq⟩)
 obtain⟨i,j,d,s,ns,a,b⟩:=t
 dsimp only at hCK⊢
 have hB1:=belowAlloc W (.cells #[.string i,.string j,.string d,.string s,.slice A ns.length c,.int .i64 a,.int .i64 b] 42)
 have HCK:=Lib.hid (hCK _ hB1)
 have HB1:=Lib.hid hB1
 obtain⟨n,hnn⟩: ∃n,n=ns.length:=⟨_,rfl⟩
 rw[←hnn]at HCK HB1⊢
 clear hCK hB1 hs hn h hnn
 go_enter Tryz.func23,Tryz.ntmps23
 go_wp2_with fail
 refine HCK.out.mono ?_
 rintro e w1 ⟨rfl,hb⟩
 have HB2:=Lib.hid (HB1.out.trans (hb.mono HB1.out.size))
 clear hb HCK
 rw[show errV (if false=true then 0 else 90)= .iface 95 (.int .i64 90)from rfl]
 go_wp2
 go_ret2
 exact⟨rfl,HB2.out⟩
theorem claimPrint_all (t:TokM) (A:Option Addr) (c:Nat) (W:World) (hs:SliceN W (.slice A t.sc.length c) t.sc) (hn:t.sc.length≤1000000) (ht:(textN t.sc).length≤1000000000) (hm:Marks W):
  Calls Tryz.prog 23 #[.agg #[.string t.iss,.string t.jti,.string t.cid,.string t.sub,.slice A t.sc.length c,.int .i64 t.iat,.int .i64 t.exp]] W (PrintC W t):=by
 cases h:tokOk t with
 |false=>exact claimPrint_bad t A c W hs hn h
 |true=>
  obtain⟨h1,h2,h3,h4, -⟩:=tok_parts h
  have z1:=visL_len h1
  have z2:=visL_len h2
  have z3:=visL_len h3
  have z4:t.sub.size≤32:=by
   rcases h4 with h4|h4
   ·omega
   ·exact sub_small h4
  exact claimPrint_any t A c W hs hn ht hm (by omega) (by omega) (by omega) (by omega)
end Go.Proofs.YtjfgmgkhinehaaaGreatDoor
namespace Go.Proofs.YtjfgmgkhinehaaaGreatDoor
open Go Go.RowKit
set_option maxRecDepth 100000 in
set_option maxHeartbeats 8000000 in
theorem refSameT_any (t:TokM) (A B:Option Addr) (c d:Nat) (W:World) (h1:SliceN W (.slice A t.sc.length c) t.sc) (h2:SliceN W (.slice B t.sc.length d) t.sc) (hn:t.sc.length≤1000000000):
  Calls Tryz.prog 30 #[.agg #[.string t.iss,.string t.jti,.string t.cid,.string t.sub,.slice A t.sc.length c,.int .i64 t.iat,.int .i64 t.exp],.agg #[.string t.iss,.string t.jti,.string t.cid,.string t.sub,.slice B t.sc.length d,.int .i64 t.iat,.int .i64 t.exp]] W fun e w'=>e= .returned (.bool true)∧Below W.heap.size W w':=by
 obtain⟨i,j,k,s,ns,a,b⟩:=t
 dsimp only at h1 h2 hn⊢
 have hB1:=((Below.refl _ W).alloc (Nat.le_refl _) (.cells #[.string i,.string j,.string k,.string s,.slice A ns.length c,.int .i64 a,.int .i64 b] 43)).alloc (by simp) (.cells #[.string i,.string j,.string k,.string s,.slice B ns.length d,.int .i64 a,.int .i64 b] 43)
 have HS:=Lib.hid (scRefSame_any _ _ ns ns _ (h1.below hB1) (h2.below hB1) hn hn)
 rw[sameN_self]at HS
 have HB1:=Lib.hid hB1
 have e1:(i.toList==i.toList)=true:=by simp
 have e2:(j.toList==j.toList)=true:=by simp
 have e3:(k.toList==k.toList)=true:=by simp
 have e4:(s.toList==s.toList)=true:=by simp
 have e5:(a==a)=true:=by simp
 have e6:(b==b)=true:=by simp
 obtain⟨n,hnn⟩: ∃n,n=ns.length:=⟨_,rfl⟩
 rw[←hnn]at HS HB1⊢
 clear h1 h2 hB1 hn hnn
 go_enter Tryz.func30,Tryz.ntmps30
 go_wp2_with fail
 refine HS.out.mono ?_
 rintro e w2 ⟨rfl,hb⟩
 have HB2:=Lib.hid (HB1.out.trans (hb.mono HB1.out.size))
 clear hb
 go_wp2
 go_ret
 exact⟨rfl,HB2.out⟩
end Go.Proofs.YtjfgmgkhinehaaaGreatDoor
namespace Go.Proofs.YtjfgmgkhinehaaaGreatDoor
open Go Go.RowKit
theorem texts_few {ns:List ByteArray} (h:greatN ns=false):(textN ns).length≤1000000000:=by
 have h1:=textG_len ns true 1000 (greatN_not h).2
 have h2:ns.length*(1000+1)≤100*1001:=Nat.mul_le_mul (greatN_not h).1 (Nat.le_refl _)
 unfold textN;omega
theorem back_facts {t:TokM} {W w':World} {e:Ending} (h:tokOk t=true) (ht:PrTells (printJ (tokJ t)) W e w'):
  ∃s:ByteArray,s.size≤5000∧readT (parsedL (strL s))=some t∧e= .returned (.tuple #[.string s,.nilIface])∧Below W.heap.size W w':=by
 rw[print_tokJ h]at ht
 obtain⟨h1,h2,h3⟩:=ht
 have hz:=(tok_right h).2
 refine⟨toS (textL (tokJ t)),by rw[size_toS];omega,?_,?_,h3⟩
 ·rw[strL_toS h2];exact parse_tokJ h
 ·rw[h1];rfl
set_option maxRecDepth 100000 in
set_option maxHeartbeats 16000000 in
theorem lawBackC_any (t:TokM) (A:Option Addr) (c:Nat) (W:World) (hA:Ask9 W) (hr:RawN W (.slice A t.sc.length c) t.sc):
  Calls Tryz.prog 8 #[.agg #[.string t.iss,.string t.jti,.string t.cid,.string t.sub,.slice A t.sc.length c,.int .i64 t.iat,.int .i64 t.exp]] W fun e w'=>e= .returned (.bool true)∧Below W.heap.size W w':=by
 have HG:=Lib.hid (fun(X:World) (hX:Below W.heap.size W X)=>refGreatT_any t A c X (hr.below hX))
 have HS:=Lib.hid (fun(h:greatN t.sc=false) (X:World) (hX:Below W.heap.size W X)=>(hr.below hX).slice h)
 have HP:=Lib.hid (fun(h:greatN t.sc=false) (X:World) (hX:Below W.heap.size W X)=>claimPrint_all t A c X ((hr.below hX).slice h) (by have:=(greatN_not h).1;omega) (texts_few h) (hA.below hX).ask.marks)
 have HK:=Lib.hid (fun(h:greatN t.sc=false) (X:World) (hX:Below W.heap.size W X)=>claimCheck_any t A c X ((hr.below hX).slice h) (by have:=(greatN_not h).1;omega))
 have HSM:=Lib.hid (fun(h:greatN t.sc=false) (X:World) (A2:Option Addr) (c2:Nat) (h1:SliceN X (.slice A t.sc.length c) t.sc) (h2:SliceN X (.slice A2 t.sc.length c2) t.sc)=>refSameT_any t A A2 c c2 X h1 h2 (by have:=(greatN_not h).1;omega))
 have HBF:=Lib.hid (fun(W w':World) (e:Ending) (h:tokOk t=true) (ht:PrTells (printJ (tokJ t)) W e w')=>back_facts h ht)
 have hB1:=belowAlloc W (.cells #[.string t.iss,.string t.jti,.string t.cid,.string t.sub,.slice A t.sc.length c,.int .i64 t.iat,.int .i64 t.exp] 42)
 have HAL:=Lib.hid (alive9_any _ (hA.below hB1))
 have HA:=Lib.hid hA
 clear hA hr hB1
 obtain⟨T,hT⟩: ∃T,T=t:=⟨_,rfl⟩
 obtain⟨ti,tj,td,ts,tsc,ta,tb⟩:=t
 dsimp only at HG HS HP HK HSM HAL⊢
 rw[←hT]at HBF
 obtain⟨tn,htn⟩: ∃n,n=tsc.length:=⟨_,rfl⟩
 rw[←htn]at HG HS HP HK HSM HAL⊢
 have HTN:=Lib.hid htn
 have HTT:=Lib.hid hT
 have hB1:=belowAlloc W (.cells #[.string ti,.string tj,.string td,.string ts,.slice A tn c,.int .i64 ta,.int .i64 tb] 42)
 have hbk:Blk (W.alloc (.cells #[.string ti,.string tj,.string td,.string ts,.slice A tn c,.int .i64 ta,.int .i64 tb] 42)) W.heap.size 42 [.string ti,.string tj,.string td,.string ts,.slice A tn c,.int .i64 ta,.int .i64 tb]:=heapAtC W rfl [.string ti,.string tj,.string td,.string ts,.slice A tn c,.int .i64 ta,.int .i64 tb] _
 have hz1:(W.alloc (.cells #[.string ti,.string tj,.string td,.string ts,.slice A tn c,.int .i64 ta,.int .i64 tb] 42)).heap.size=W.heap.size+1:=by simp
 have HB1:=Lib.hid hB1
 have HBK:=Lib.hid hbk
 have HZ1:=Lib.hid hz1
 clear hB1 hbk hz1 htn hT
 go_enter Tryz.func8,Tryz.ntmps8
 go_wp2_with fail
 refine HAL.out.mono ?_
 rintro e w1 ⟨rfl,hb⟩
 have HU1:=Lib.hid (show Below (W.heap.size+1) (W.alloc (.cells #[.string ti,.string tj,.string td,.string ts,.slice A tn c,.int .i64 ta,.int .i64 tb] 42)) w1 by have:=hb;rwa [HZ1.out]at this)
 have HW1:=Lib.hid (HB1.out.trans (HU1.out.mono (Nat.le_succ _)))
 have hq:=HBK.out.below HU1.out (Nat.lt_succ_self _)
 have p0:=hq.cell 0
 have p1:=hq.cell 1
 have p2:=hq.cell 2
 have p3:=hq.cell 3
 have p4:=hq.cell 4
 have p5:=hq.cell 5
 have p6:=hq.cell 6
 clear hb hq HAL
 go_wp2_with fail
 refine(HG.out _ HW1.out).mono ?_
 rintro e w2 ⟨g,rfl,hg,hb⟩
 have HW2:=Lib.hid (HW1.out.trans (hb.mono HW1.out.size))
 have HU2:=Lib.hid (below_alloc2 HU1.out hb)
 have hq:=HBK.out.below HU2.out (Nat.lt_succ_self _)
 clear p0 p1 p2 p3 p4 p5 p6
 have p0:=hq.cell 0
 have p1:=hq.cell 1
 have p2:=hq.cell 2
 have p3:=hq.cell 3
 have p4:=hq.cell 4
 have p5:=hq.cell 5
 have p6:=hq.cell 6
 clear hb hq
 cases g with
 |true=>
  clear hg
  go_wp2
  go_ret
  exact⟨rfl,HW2.out⟩
 |false=>
 have HGF:=Lib.hid (hg rfl)
 clear hg
 go_wp2_with fail
 refine(HP.out HGF.out _ HW2.out).mono ?_
 rintro e w3 (⟨hok,ht⟩|⟨hok,rfl,hb⟩)
 case inr=>
  have HW3:=Lib.hid (HW2.out.trans (hb.mono HW2.out.size))
  have HU3:=Lib.hid (below_alloc2 HU2.out hb)
  have hq:=HBK.out.below HU3.out (Nat.lt_succ_self _)
  clear p0 p1 p2 p3 p4 p5 p6
  have p0:=hq.cell 0
  have p1:=hq.cell 1
  have p2:=hq.cell 2
  have p3:=hq.cell 3
  have p4:=hq.cell 4
  have p5:=hq.cell 5
  have p6:=hq.cell 6
  have HKK:=Lib.hid (HK.out HGF.out w3 HW3.out)
  rw[hok]at HKK
  clear hb hq hok
  go_wp2_with fail
  refine HKK.out.mono ?_
  rintro e w4 ⟨rfl,hb⟩
  rw[show errV (if false=true then 0 else 90)= .iface 95 (.int .i64 90)from rfl]
  have HW4:=Lib.hid (HW3.out.trans (hb.mono HW3.out.size))
  clear hb
  go_wp2
  go_ret
  exact⟨rfl,HW4.out⟩
 case inl=>
 rw[←HTT.out]at hok ht
 obtain⟨S,hsz,hrd,rfl,hb⟩:=HBF.out _ _ _ hok ht
 have HW3:=Lib.hid (HW2.out.trans (hb.mono HW2.out.size))
 have HU3:=Lib.hid (below_alloc2 HU2.out hb)
 have HRD:=Lib.hid (claimRead_any S w3 (HA.out.below HW3.out) hsz)
 rw[hrd,HTT.out]at HRD
 clear hb hok ht hrd hsz p0 p1 p2 p3 p4 p5 p6
 go_wp2_with fail
 refine HRD.out.mono ?_
 rintro e w4 (⟨t',A2,c2,ht,rfl,hsl2,hne,hb⟩|⟨ht, -⟩)
 case inr=>cases ht
 injection ht with ht
 subst ht
 dsimp only at hsl2⊢
 rw[←HTN.out]at hsl2⊢
 have HW4:=Lib.hid (HW3.out.trans (hb.mono HW3.out.size))
 have HU4:=Lib.hid (below_alloc2 HU3.out hb)
 have HS2:=Lib.hid hsl2
 clear hsl2 hne hb
 go_wp2_with(first
  |(refine wpList_alloc_blk rfl (some 5) rfl _ rfl _ zeroTokW ?_;intro g5 wa5 hg5 hb5 hgr5;have HA5:=Lib.hid hgr5;have HG5:=Lib.hid hg5;clear hgr5 hg5;try go_frame)
  |(refine wpList_store_blk rfl none rfl _ (.tmp 5) (.tmp 24) rfl g5 0 [.string ti,.string tj,.string td,.string ts,.slice A2 tn c2,.int .i64 ta,.int .i64 tb] rfl rfl _ _ hb5 (by simp[zeros7]) sizeTok (by intro v hv;simp at hv;rcases hv with rfl|rfl|rfl|rfl|rfl|rfl|rfl<;>rfl) ?_;intro ws5 hc5 hgs5;rw[splice_all _ _ (by simp[zeros7])]at hc5;have HM5:=Lib.hid (mid_below (Below.refl _ _) HA5.out HG5.out hgs5);have HC5:=Lib.hid hc5;have hq:=HBK.out.below (below_alloc2 HU4.out HM5.out) (Nat.lt_succ_self _);have p0:=hq.cell 0;have p1:=hq.cell 1;have p2:=hq.cell 2;have p3:=hq.cell 3;have p4:=hq.cell 4;have p5:=hq.cell 5;have p6:=hq.cell 6;have q0:=HC5.out.cell 0;have q1:=HC5.out.cell 1;have q2:=HC5.out.cell 2;have q3:=HC5.out.cell 3;have q4:=HC5.out.cell 4;have q5:=HC5.out.cell 5;have q6:=HC5.out.cell 6;clear hq;clear hgs5 hb5 hc5;try go_frame)
  |(go_at_call 30;fail))
 have HW5:=Lib.hid (HW4.out.trans (HM5.out.mono HW4.out.size))
 refine(HSM.out HGF.out _ A2 c2 (HS.out HGF.out _ HW5.out) (HS2.out.below HM5.out)).mono ?_
 rintro e w6 ⟨rfl,hb⟩
 have HW6:=Lib.hid (HW5.out.trans (hb.mono HW5.out.size))
 clear hb
 go_wp2
 go_ret
 exact⟨rfl,HW6.out⟩
end Go.Proofs.YtjfgmgkhinehaaaGreatDoor
