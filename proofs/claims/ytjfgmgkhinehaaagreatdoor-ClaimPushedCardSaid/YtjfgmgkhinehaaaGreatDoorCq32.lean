
import Derived.Test.YtjfgmgkhinehaaaGreatDoorRows
import Derived.ProofKit
import Derived.LaidMore
import Derived.LaidHandle
import Derived.LaidLaws
import Derived.Lay
import Derived.OpenShut
import Derived.Stop.Joined
import Derived.Deep.DeepHandedRow
import Derived.ChangeMaps5
import Derived.Lib.SlBytesConst
import Derived.Test.YtjfgmgkhinehaaaGreatDoorCq24
import Derived.Test.YtjfgmgkhinehaaaGreatDoorCq31
set_option maxRecDepth 100000
set_option maxHeartbeats 16000000
set_option linter.all false
namespace Go.Proofs.YtjfgmgkhinehaaaGreatDoor
open Go Go.RowKit
def JErr (n pos:Int) (v:Value) (w:World):Prop:=
 (n=0∧pos= -1∧v= .nilIface)∨(n≠0∧pos= -1∧v= .iface 95 (.int .i64 n))∨(n≠0∧ ∃b,v= .iface 120 (.pointer (some ⟨b,0,none⟩))∧w.cell? ⟨b,0,none⟩=some (.int .i64 pos)∧w.cell? ⟨b,1,none⟩=some (.iface 95 (.int .i64 n)))
theorem parsedL_ends (l:List Int):((zar l).2.1=0→(zar l).2.2= -1)∧((zar l).2.1≠0→(zar l).1=zeroJ):=by
 unfold zar readL
 split
 ·exact⟨fun h=>(by cases h),fun _=>rfl⟩
 ·split
  ·rename_i he;exact⟨fun h=>absurd h he,fun _=>rfl⟩
  ·split
   ·exact⟨fun h=>(by cases h),fun _=>rfl⟩
   ·exact⟨fun _=>rfl,fun h=>absurd rfl h⟩
def PAll (W:World) (r:J×Int×Int) (e:Ending) (w':World):Prop:=
 ∃v ev,e= .returned (.tuple #[v,ev])∧RepS w' (fun b=>W.heap.size≤b) r.1 v∧JErr r.2.1 r.2.2 ev w'∧Below W.heap.size W w'
theorem parse_tells (A:Option Addr) (xs:List Int) (n c:Nat) (W:World) (hn:xs.length=n) (hn2:n≤9223372036854775807) (hx:Bytes xs) (hl:Lies W A xs) (hm:Marks W) (ht:ErrTab W):
  Calls Tryz.prog 41 #[.slice A n c] W (PAll W (zar xs)):=by
 obtain⟨e1,e2⟩:=parsedL_ends xs
 refine(parse_any A xs n c W hn hn2 hx hl hm ht).mono ?_
 rintro e w' hp
 rcases hp with(⟨h0,v,rfl,hr,hb⟩|⟨h0,b,rfl,c0,c1,_,hb⟩)|⟨h0,h1,rfl,hb⟩
 ·exact⟨v,_,rfl,hr,.inl ⟨h0,e1 h0,rfl⟩,hb⟩
 ·exact⟨_,_,rfl,by rw[e2 h0];exact RepS.zero _ _,.inr (.inr ⟨h0,b,rfl,c0,c1⟩),hb⟩
 ·exact⟨_,_,rfl,by rw[e2 h0];exact RepS.zero _ _,.inr (.inl ⟨h0,h1,rfl⟩),hb⟩
structure Ask5 (w:World):Prop where
 tab:ErrTab w
 marks:Marks w
theorem Ask5.below {w w':World} (h:Ask5 w) (hb:Below w.heap.size w w'):Ask5 w':=⟨h.tab.below hb,h.marks.below hb⟩
theorem parse_str (s:ByteArray) (c:Nat) (W:World) (ha:Ask5 W) (hs:s.size≤5000):Calls Tryz.prog 41 #[.slice (some ⟨W.heap.size,0,none⟩) s.size c] (Lib.bytesWorld W 5 s) fun e w'=>
  ∃x0 x1 x2 xA xp xc xK xq xd ev,e= .returned (.tuple #[.agg #[.int .i64 x0,.int .i64 x1,.string x2,.slice xA xp xc,.slice xK xq xd],ev])∧RepJ w' (zar (strL s)).1 (.agg #[.int .i64 x0,.int .i64 x1,.string x2,.slice xA xp xc,.slice xK xq xd])∧JErr (zar (strL s)).2.1 (zar (strL s)).2.2 ev w'∧Below W.heap.size W w':=by
 refine(parse_tells (some ⟨W.heap.size,0,none⟩) (strL s) s.size c _ (zaX s) (by omega) (zcj s) (zkd W 5 s) (ha.marks.below (zdo W _ s)) (ha.tab.below (zdo W _ s))).mono ?_
 rintro e w' ⟨v,ev,rfl,hr,he,hb⟩
 have hj:=RepS.toJ _ _ hr
 obtain⟨x0,x1,x2,A,p,c,K,q,d,rfl⟩:=hj.form
 exact⟨_,_,_,_,_,_,_,_,_,ev,rfl,hj,he,(zdo W 5 s).trans (hb.mono (zdo W 5 s).size)⟩
structure Ask9 (w:World):Prop where
 ask:Ask5 w
 maxl:MaxLS w
theorem Ask9.below {w w':World} (h:Ask9 w) (hb:Below w.heap.size w w'):Ask9 w':=⟨h.ask.below hb,h.maxl.below hb⟩
theorem JErr.ends {n pos:Int} {v:Value} {w:World} (h:JErr n pos v w):(n=0∧v= .nilIface)∨(n≠0∧ ∃d x,v= .iface d x):=by
 rcases h with⟨h,_,e⟩|⟨h,_,e⟩|⟨h,b,e,_⟩
 ·exact .inl ⟨h,e⟩
 ·exact .inr ⟨h,_,_,e⟩
 ·exact .inr ⟨h,_,_,e⟩
theorem zlz (s:ByteArray):(zcY s).length≤16:=by
 unfold zcY
 split
 ·rename_i h
  unfold okW at h
  rw[Bool.and_eq_true,decide_eq_true_eq]at h
  exact h.2
 ·simp
theorem readTok_few {j:J} {t:TokM} (h:zbs j=some t):t.sc.length≤16:=by
 unfold zbs at h
 split at h
 ·injection h with h
  rw[←h]
  show(askS j nScope).1.length≤16
  unfold askS
  split
  ·simp
  ·split
   ·exact zlz _
   ·simp
 ·cases h
theorem zfd (s:ByteArray) (W:World) (ha:Ask9 W) (hs:s.size≤5000):
  Calls Tryz.prog 28 #[.string s] W (TokTells W (readT (zar (strL s)))):=by
 have hconv:=fun(W:World)=>Lib.run_convert_string_bytes (P:=Tryz.prog) W 9 80 5 s Tryz.underlying9 Tryz.underlying80 Tryz.underlying5
 have hB0:=zaf W (.cells #[.string ⟨#[]⟩,.string ⟨#[]⟩,.string ⟨#[]⟩,.string ⟨#[]⟩,.slice none 0 0,.int .i64 0,.int .i64 0] 42)
 have hbr0:Blk (W.alloc (.cells #[.string ⟨#[]⟩,.string ⟨#[]⟩,.string ⟨#[]⟩,.string ⟨#[]⟩,.slice none 0 0,.int .i64 0,.int .i64 0] 42)) W.heap.size 42 zeros7:=zcX W rfl zeros7 _
 have HP:=Lib.hid (fun(c:Nat)=>by
  have:=parse_str s c _ (ha.ask.below hB0) hs
  rw[show(W.alloc (.cells #[.string ⟨#[]⟩,.string ⟨#[]⟩,.string ⟨#[]⟩,.string ⟨#[]⟩,.slice none 0 0,.int .i64 0,.int .i64 0] 42)).heap.size=W.heap.size+1 by simp]at this
  exact this)
 have HA:=Lib.hid ha
 have HB0:=Lib.hid hB0
 have HBR0:=Lib.hid hbr0
 have HSML:=Lib.hid (fun h=>parsed_small (l:=strL s) h)
 have HMLD:=Lib.hid (fun h=>(zfs (strL s) h).2)
 obtain⟨r,hr⟩: ∃r,r=zar (strL s):=⟨_,rfl⟩
 rw[←hr]at HP HSML HMLD⊢
 obtain⟨j,no,po⟩:=r
 obtain⟨R,hR⟩: ∃R,R=readT (j,no,po):=⟨_,rfl⟩
 have HR:Hid (R=if no≠0 then none else match zbs j with|some t=>if zcl t=true then some t else none|none=>none):=Lib.hid hR
 rw[←hR]
 clear ha hs hr hR hB0 hbr0
 go_enter Tryz.func28,Tryz.ntmps28
 go_wp2_with fail
 (with_reducible refine(HP.out _).mono ?_)
 rintro e w2 ⟨x0,x1,x2,xA,xp,xc,xK,xq,xd,ev,rfl,hrj,hev,hb⟩
 have HRJ:=Lib.hid hrj
 have hje:=hev.ends
 have HB2:=Lib.hid (HB0.out.trans (hb.mono (Nat.le_succ _)))
 have hbr2:=HBR0.out.below hb (Nat.lt_succ_self _)
 have HLT2:=Lib.hid hbr2.lt
 clear hrj hev hb hconv HP
 rcases hje with⟨rfl,rfl⟩|⟨hno,d,x,rfl⟩
 case inr=>
  have HRN:Hid (R=none):=Lib.hid (by rw[HR.out,if_pos hno])
  clear hno
  go_wp2_with(first
   |(refine zaK rfl (some 4) rfl _ rfl _ zcs ?_;intro g3 wa3 hg3 hb3 hgr3;have HA3:=Lib.hid hgr3;have HG3:=Lib.hid hg3;have hbr3:=hbr2.grownN hgr3;clear hgr3 hg3;try go_frame)
   |(refine zaQ rfl none rfl _ (.tmp 4) (.tmp 12) rfl g3 0 [.int .i64 x0,.int .i64 x1,.string x2,.slice xA xp xc,.slice xK xq xd] rfl rfl _ _ hb3 (by simp[zeros5]) zaa (by intro v hv;simp at hv;rcases hv with rfl|rfl|rfl|rfl|rfl<;>rfl) ?_;intro w4 hc3 hgs3;rw[zaW _ _ (by simp[zeros5])]at hc3;have HM3:=Lib.hid (zao (Below.refl _ _) HA3.out HG3.out hgs3);have hbr4:=hbr3.grown hgs3 (by intro e;injection e with e;have:=HG3.out;have:=HLT2.out;omega);obtain⟨z0,z1,z2,z3,z4⟩:w4.cell? ⟨g3,0,none⟩=some (.int .i64 x0)∧w4.cell? ⟨g3,1,none⟩=some (.int .i64 x1)∧w4.cell? ⟨g3,2,none⟩=some (.string x2)∧w4.cell? ⟨g3,3,none⟩=some (.slice xA xp xc)∧w4.cell? ⟨g3,4,none⟩=some (.slice xK xq xd):=⟨hc3.cell 0,hc3.cell 1,hc3.cell 2,hc3.cell 3,hc3.cell 4⟩;clear hgs3 hc3 hb3 hbr3;try go_frame)
   |(refine zaQ rfl none rfl _ (.tmp 2) (.tmp 16) rfl W.heap.size 0 [.string ⟨#[]⟩,.string ⟨#[]⟩,.string ⟨#[]⟩,.string ⟨#[]⟩,.slice none 0 0,.int .i64 0,.int .i64 0] rfl rfl _ _ hbr4 (by simp[zeros7]) zdQ (by intro v hv;simp[zeros7]at hv;rcases hv with rfl|rfl|rfl<;>rfl) ?_;intro w9 hb9 hgr;rw[zaW _ _ (by simp[zeros7])]at hb9;have HB9:=Lib.hid hb9;have HG9:=Lib.hid hgr;clear hgr hb9;try go_frame))
  (try simp only[Exit.inBlock,Exit.then])
  have r0:=HB9.out.cell 0
  have r1:=HB9.out.cell 1
  have r2:=HB9.out.cell 2
  have r3:=HB9.out.cell 3
  have r4:=HB9.out.cell 4
  have r5:=HB9.out.cell 5
  have r6:=HB9.out.cell 6
  refine bodyPost_ret (v:= .tuple #[.agg #[.string ⟨#[]⟩,.string ⟨#[]⟩,.string ⟨#[]⟩,.string ⟨#[]⟩,.slice none 0 0,.int .i64 0,.int .i64 0],.iface 95 (.int .i64 90)]) ?_ rfl (.inr ⟨HRN.out,_,_,rfl,.inr (.inl ⟨by decide,rfl⟩),(HB2.out.trans (HM3.out.mono HB2.out.size)).grown HG9.out (HB2.out.trans (HM3.out.mono HB2.out.size)).size (by intro b e;injection e with e;omega)⟩)
  rw[results_cell_tmp rfl];go_simp
 case inl=>
  have hsm:=(HSML.out rfl).1
  have hml:=HMLD.out rfl
  have HTK:=Lib.hid (fun(W':World) (hW:Below w2.heap.size w2 W')=>znh j _ W' (RepJ.below hW _ _ HRJ.out) hsm hml ((HA.out.below (HB2.out.trans (hW.mono HB2.out.size))).maxl))
  clear hsm hml HSML HMLD
  go_wp2_with(first
   |(refine zaK rfl (some 4) rfl _ rfl _ zcs ?_;intro g3 wa3 hg3 hb3 hgr3;have HA3:=Lib.hid hgr3;have HG3:=Lib.hid hg3;have hbr3:=hbr2.grownN hgr3;clear hgr3 hg3;try go_frame)
   |(refine zaQ rfl none rfl _ (.tmp 4) (.tmp 12) rfl g3 0 [.int .i64 x0,.int .i64 x1,.string x2,.slice xA xp xc,.slice xK xq xd] rfl rfl _ _ hb3 (by simp[zeros5]) zaa (by intro v hv;simp at hv;rcases hv with rfl|rfl|rfl|rfl|rfl<;>rfl) ?_;intro w4 hc3 hgs3;rw[zaW _ _ (by simp[zeros5])]at hc3;have HM3:=Lib.hid (zao (Below.refl _ _) HA3.out HG3.out hgs3);have hbr4:=hbr3.grown hgs3 (by intro e;injection e with e;have:=HG3.out;have:=HLT2.out;omega);obtain⟨z0,z1,z2,z3,z4⟩:w4.cell? ⟨g3,0,none⟩=some (.int .i64 x0)∧w4.cell? ⟨g3,1,none⟩=some (.int .i64 x1)∧w4.cell? ⟨g3,2,none⟩=some (.string x2)∧w4.cell? ⟨g3,3,none⟩=some (.slice xA xp xc)∧w4.cell? ⟨g3,4,none⟩=some (.slice xK xq xd):=⟨hc3.cell 0,hc3.cell 1,hc3.cell 2,hc3.cell 3,hc3.cell 4⟩;clear hgs3 hc3 hb3 hbr3;try go_frame)
   |(go_at_call 65;fail))
  refine(HTK.out _ HM3.out).mono ?_
  have HB4:=Lib.hid (HB2.out.trans (HM3.out.mono HB2.out.size))
  rintro e w5 (⟨t,A,c,hrt,rfl,hsl,hne,hb⟩|⟨hrt,d,x,rfl,hce,hb⟩)
  ·have HB5:=Lib.hid (HB4.out.trans (hb.mono HB4.out.size))
   have hbr5:=hbr4.below hb hbr4.lt
   have HLT5:=Lib.hid hbr5.lt
   have HR2:Hid (R=if zcl t=true then some t else none):=Lib.hid (by rw[HR.out,if_neg (by simp),hrt])
   have hln:=readTok_few hrt
   have HSL:=Lib.hid hsl
   have HNE:=Lib.hid hne
   have HCK:=Lib.hid (fun(W':World) (hW:Below w5.heap.size w5 W')=>zdq t A c W' (hsl.below hW) (by omega))
   obtain⟨ok,hok⟩: ∃b,b=zcl t:=⟨_,rfl⟩
   rw[←hok]at HR2 HCK
   obtain⟨ti,tj,td,ts,tsc,ta,tb⟩:=t
   obtain⟨tn,htn⟩: ∃n,n=tsc.length:=⟨_,rfl⟩
   have HSL2:Hid (SliceN w5 (.slice A tn c) tsc):=Lib.hid (by rw[htn];exact HSL.out)
   have HTN:=Lib.hid htn
   dsimp only at HCK HNE⊢
   rw[←htn]at HCK⊢
   clear hb hbr4 hrt hln hsl hne hok z0 z1 z2 z3 z4 HR HTK htn HSL
   go_wp2_with(first
    |(refine zaK rfl (some 6) rfl _ rfl _ zbv ?_;intro g6 wa6 hg6 hb6 hgr6;have HA6:=Lib.hid hgr6;have HG6:=Lib.hid hg6;have hbr6:=hbr5.grownN hgr6;clear hgr6 hg6;try go_frame)
    |(refine zaQ rfl none rfl _ (.tmp 6) (.tmp 21) rfl g6 0 [.string ti,.string tj,.string td,.string ts,.slice A tn c,.int .i64 ta,.int .i64 tb] rfl rfl _ _ hb6 (by simp[zeros7]) zdQ (by intro v hv;simp at hv;rcases hv with rfl|rfl|rfl|rfl|rfl|rfl|rfl<;>rfl) ?_;intro w7 hc6 hgs6;rw[zaW _ _ (by simp[zeros7])]at hc6;have HM6:=Lib.hid (zao (Below.refl _ _) HA6.out HG6.out hgs6);have hbr7:=hbr6.grown hgs6 (by intro e;injection e with e;have:=HG6.out;have:=HLT5.out;omega);obtain⟨s0,s1,s2,s3,s4,s5,s6⟩:w7.cell? ⟨g6,0,none⟩=some (.string ti)∧w7.cell? ⟨g6,1,none⟩=some (.string tj)∧w7.cell? ⟨g6,2,none⟩=some (.string td)∧w7.cell? ⟨g6,3,none⟩=some (.string ts)∧w7.cell? ⟨g6,4,none⟩=some (.slice A tn c)∧w7.cell? ⟨g6,5,none⟩=some (.int .i64 ta)∧w7.cell? ⟨g6,6,none⟩=some (.int .i64 tb):=⟨hc6.cell 0,hc6.cell 1,hc6.cell 2,hc6.cell 3,hc6.cell 4,hc6.cell 5,hc6.cell 6⟩;have HC6:=Lib.hid hc6;clear hc6;clear hgs6 hb6 hbr6;try go_frame)
    |(go_at_call 24;fail))
   have hck:=HCK.out _ HM6.out
   refine hck.mono ?_
   rintro e w8 ⟨rfl,hb⟩
   have hbr8:=hbr7.below hb hbr7.lt
   have HBR8:=Lib.hid hbr8
   have HB7:=HB5.out.trans (HM6.out.mono HB5.out.size)
   have HB8:=Lib.hid (HB7.trans (hb.mono HB7.size))
   have HSL8:=Lib.hid ((HSL2.out.below HM6.out).below hb)
   have c8:=HC6.out.below hb HC6.out.lt
   have u0:=c8.cell 0
   have u1:=c8.cell 1
   have u2:=c8.cell 2
   have u3:=c8.cell 3
   have u4:=c8.cell 4
   have u5:=c8.cell 5
   have u6:=c8.cell 6
   clear hb hbr7 s0 s1 s2 s3 s4 s5 s6 HB7 hck HCK c8
   cases ok with
   |true=>
    rw[show errV (if true=true then 0 else 90)= .nilIface from rfl]
    have HRN:=Lib.hid (HR2.out.trans (if_pos rfl))
    go_wp2_with(refine zaQ rfl none rfl _ (.tmp 2) (.tmp 33) rfl W.heap.size 0 [.string ti,.string tj,.string td,.string ts,.slice A tn c,.int .i64 ta,.int .i64 tb] rfl rfl _ _ hbr8 (by simp[zeros7]) zdQ (by intro v hv;simp at hv;rcases hv with rfl|rfl|rfl|rfl|rfl|rfl|rfl<;>rfl) ?_;intro w9 hb9 hgr;rw[zaW _ _ (by simp[zeros7])]at hb9;have HB9:=Lib.hid hb9;have HG9:=Lib.hid hgr;clear hgr hb9;try go_frame)
    (try simp only[Exit.inBlock,Exit.then])
    have r0:=HB9.out.cell 0
    have r1:=HB9.out.cell 1
    have r2:=HB9.out.cell 2
    have r3:=HB9.out.cell 3
    have r4:=HB9.out.cell 4
    have r5:=HB9.out.cell 5
    have r6:=HB9.out.cell 6
    refine bodyPost_ret (v:= .tuple #[.agg #[.string ti,.string tj,.string td,.string ts,.slice A tn c,.int .i64 ta,.int .i64 tb],.nilIface]) ?_ rfl (.inl ⟨⟨ti,tj,td,ts,tsc,ta,tb⟩,A,c,HRN.out,by rw[HTN.out],by have:=HSL8.out.grownC HBR8.out (fun i x h hx=>HNE.out x hx (zen i x h)) HG9.out;rw[HTN.out]at this;exact this,HNE.out,HB8.out.grown HG9.out HB8.out.size (by intro b e;injection e with e;omega)⟩)
    rw[results_cell_tmp rfl];go_simp
   |false=>
    rw[show errV (if false=true then 0 else 90)= .iface 95 (.int .i64 90)from rfl]
    have HRN:=Lib.hid (HR2.out.trans (if_neg (by decide)))
    go_wp2_with(refine zaQ rfl none rfl _ (.tmp 2) (.tmp 31) rfl W.heap.size 0 [.string ⟨#[]⟩,.string ⟨#[]⟩,.string ⟨#[]⟩,.string ⟨#[]⟩,.slice none 0 0,.int .i64 0,.int .i64 0] rfl rfl _ _ hbr8 (by simp[zeros7]) zdQ (by intro v hv;simp[zeros7]at hv;rcases hv with rfl|rfl|rfl<;>rfl) ?_;intro w9 hb9 hgr;rw[zaW _ _ (by simp[zeros7])]at hb9;have HB9:=Lib.hid hb9;have HG9:=Lib.hid hgr;clear hgr hb9;try go_frame)
    (try simp only[Exit.inBlock,Exit.then])
    have r0:=HB9.out.cell 0
    have r1:=HB9.out.cell 1
    have r2:=HB9.out.cell 2
    have r3:=HB9.out.cell 3
    have r4:=HB9.out.cell 4
    have r5:=HB9.out.cell 5
    have r6:=HB9.out.cell 6
    refine bodyPost_ret (v:= .tuple #[.agg #[.string ⟨#[]⟩,.string ⟨#[]⟩,.string ⟨#[]⟩,.string ⟨#[]⟩,.slice none 0 0,.int .i64 0,.int .i64 0],.iface 95 (.int .i64 90)]) ?_ rfl (.inr ⟨HRN.out,_,_,rfl,.inr (.inl ⟨by decide,rfl⟩),HB8.out.grown HG9.out HB8.out.size (by intro b e;injection e with e;omega)⟩)
    rw[results_cell_tmp rfl];go_simp
  ·have HB5:=Lib.hid (HB4.out.trans (hb.mono HB4.out.size))
   have hbr5:=hbr4.below hb hbr4.lt
   have HLT5:=Lib.hid hbr5.lt
   have HRN:Hid (R=none):=Lib.hid (by rw[HR.out,if_neg (by simp),hrt])
   have HCE:=Lib.hid hce
   clear hb hbr4 hrt hce z0 z1 z2 z3 z4 HR HTK
   go_wp2_with(first
    |(refine zaK rfl (some 6) rfl _ rfl _ zbv ?_;intro g6 wa6 hg6 hb6 hgr6;have HA6:=Lib.hid hgr6;have HG6:=Lib.hid hg6;have hbr6:=hbr5.grownN hgr6;clear hgr6 hg6;try go_frame)
    |(refine zaQ rfl none rfl _ (.tmp 6) (.tmp 21) rfl g6 0 [.string ⟨#[]⟩,.string ⟨#[]⟩,.string ⟨#[]⟩,.string ⟨#[]⟩,.slice none 0 0,.int .i64 0,.int .i64 0] rfl rfl _ _ hb6 (by simp[zeros7]) zdQ (by intro v hv;simp[zeros7]at hv;rcases hv with rfl|rfl|rfl<;>rfl) ?_;intro w7 hc6 hgs6;rw[zaW _ _ (by simp[zeros7])]at hc6;have HM6:=Lib.hid (zao (Below.refl _ _) HA6.out HG6.out hgs6);have hbr7:=hbr6.grown hgs6 (by intro e;injection e with e;have:=HG6.out;have:=HLT5.out;omega);have HBR7:=Lib.hid hbr7;clear hc6;clear hgs6 hb6 hbr6;try go_frame)
    |(refine zaQ rfl none rfl _ (.tmp 2) (.tmp 25) rfl W.heap.size 0 [.string ⟨#[]⟩,.string ⟨#[]⟩,.string ⟨#[]⟩,.string ⟨#[]⟩,.slice none 0 0,.int .i64 0,.int .i64 0] rfl rfl _ _ hbr7 (by simp[zeros7]) zdQ (by intro v hv;simp[zeros7]at hv;rcases hv with rfl|rfl|rfl<;>rfl) ?_;intro w9 hb9 hgr;rw[zaW _ _ (by simp[zeros7])]at hb9;have HB9:=Lib.hid hb9;have HG9:=Lib.hid hgr;clear hgr hb9;try go_frame))
   (try simp only[Exit.inBlock,Exit.then])
   have r0:=HB9.out.cell 0
   have r1:=HB9.out.cell 1
   have r2:=HB9.out.cell 2
   have r3:=HB9.out.cell 3
   have r4:=HB9.out.cell 4
   have r5:=HB9.out.cell 5
   have r6:=HB9.out.cell 6
   have HB7:=HB5.out.trans (HM6.out.mono HB5.out.size)
   refine bodyPost_ret (v:= .tuple #[.agg #[.string ⟨#[]⟩,.string ⟨#[]⟩,.string ⟨#[]⟩,.string ⟨#[]⟩,.slice none 0 0,.int .i64 0,.int .i64 0],.iface d x]) ?_ rfl (.inr ⟨HRN.out,d,x,rfl,(HCE.out.below HM6.out).grownC HBR7.out (by intro d x h;simp[zeros7]at h) HG9.out,HB7.grown HG9.out HB7.size (by intro b e;injection e with e;omega)⟩)
   rw[results_cell_tmp rfl];go_simp
def cx1:ByteArray:=⟨#[123,34,99,108,105,101,110,116,95,105,100,34,58,34,99,34,44,34,101,120,112,34,58,57,44,34,105,97,116,34,58,49,44,34,105,115,115,34,58,34,105,34,44,34,106,116,105,34,58,34,104,34,44,34,115,99,111,112,101,34,58,34,98,32,97,34,125]⟩
def cx2:ByteArray:=⟨#[123,34,99,108,105,101,110,116,95,105,100,34,58,34,99,34,44,34,101,120,112,34,58,57,44,34,105,97,116,34,58,49,44,34,105,115,115,34,58,34,105,34,44,34,106,116,105,34,58,34,104,34,44,34,115,99,111,112,101,34,58,34,98,32,97,34,44,34,120,34,58,49,125]⟩
theorem cr1:readT (zar (strL cx1))=some ⟨⟨#[105]⟩,⟨#[104]⟩,⟨#[99]⟩,⟨#[]⟩,[⟨#[97]⟩,⟨#[98]⟩],1,9⟩:=by kernel_rfl
theorem cr2:readT (zar (strL cx2))=none:=by kernel_rfl
theorem znw (d:TypeId) (x:Value) (w:World) (h:CErr 90 (.iface d x) w) (ht:ErrTab w):Calls Tryz.prog 26 #[.iface d x] w fun e w'=>e= .returned (.bool true)∧Below w.heap.size w w':=by
 have HN:=Lib.hid (numC h ht)
 clear h ht
 go_enter Tryz.func26,Tryz.ntmps26
 go_wp2_with(go_at_call 35;(with_reducible refine HN.out.mono ?_);rintro e w' ⟨rfl,hb⟩;have HB:=Lib.hid hb;clear hb)
 go_ret
 exact⟨rfl,HB.out⟩
theorem zmi (w:World) (ha:Ask9 w):Calls Tryz.prog 21 #[] w fun e w'=>e= .returned (.bool true)∧Below w.heap.size w w':=by
 have HA:=Lib.hid ha
 have H1:=Lib.hid (zfd cx1 w ha (by decide))
 have H2:=Lib.hid (fun(W:World) (h:Ask9 W)=>zfd cx2 W h (by decide))
 rw[cr1]at H1
 rw[cr2]at H2
 clear ha
 go_enter Tryz.func21,Tryz.ntmps21
 go_wp2_with fail
 refine H1.out.mono ?_
 rintro e w1 (⟨t,A,c,ht,rfl,hsl, -,hb⟩|⟨ht,_⟩)
 case inr=>cases ht
 injection ht with ht
 subst ht
 obtain⟨A0,c0,e0, -,hl, -⟩:=hsl
 obtain⟨b,o,rfl,hlt,hcell⟩:=hl (by simp)
 injection e0 with e1 e2 e3
 subst e1
 have HCL:Hid (w1.cell? ⟨b,o,none⟩=some (.string ⟨#[97]⟩)):=Lib.hid (hcell 0 _ rfl)
 have HLT:=Lib.hid hlt
 have HB1:=Lib.hid hb
 clear hb H1 hl hcell hlt e2 e3
 dsimp only[List.length_cons,List.length_nil]
 go_wp2_with(first
  |(refine zaK rfl (some 1) rfl _ rfl _ zbv ?_;intro g1 wa1 hg1 hb1 hgr1;have HA1:=Lib.hid hgr1;have HG1:=Lib.hid hg1;clear hgr1 hg1;try go_frame)
  |(refine zaQ rfl none rfl _ (.tmp 1) (.tmp 7) rfl g1 0 [.string ⟨#[105]⟩,.string ⟨#[104]⟩,.string ⟨#[99]⟩,.string ⟨#[]⟩,.slice (some ⟨b,o,none⟩) 2 c,.int .i64 1,.int .i64 9] rfl rfl _ _ hb1 (by simp[zeros7]) zdQ (by intro v hv;simp at hv;rcases hv with rfl|rfl|rfl|rfl|rfl|rfl|rfl<;>rfl) ?_;intro ws1 hc1 hgs1;rw[zaW _ _ (by simp[zeros7])]at hc1;have HM1:=Lib.hid (zao (Below.refl _ _) HA1.out HG1.out hgs1);have HC1:=Lib.hid hc1;clear hgs1 hb1 hc1;try go_frame))
 have HB2:=Lib.hid (HB1.out.trans (HM1.out.mono HB1.out.size))
 refine(H2.out _ (HA.out.below HB2.out)).mono ?_
 rintro e w3 (⟨t,A2,c2,ht,_⟩|⟨-,d,x,rfl,hce,hb⟩)
 case inl=>cases ht
 have HCE:=Lib.hid hce
 have HB3:=Lib.hid (HB2.out.trans (hb.mono HB2.out.size))
 have HM13:=Lib.hid (HM1.out.trans (hb.mono HM1.out.size))
 have HC13:=Lib.hid (HC1.out.below hb HC1.out.lt)
 clear hce hb
 go_wp2_with(first
  |(refine zaK rfl (some 3) rfl _ rfl _ zbv ?_;intro g3 wa3 hg3 hb3 hgr3;have HA3:=Lib.hid hgr3;have HG3:=Lib.hid hg3;clear hgr3 hg3;try go_frame)
  |(refine zaQ rfl none rfl _ (.tmp 3) (.tmp 11) rfl g3 0 [.string ⟨#[]⟩,.string ⟨#[]⟩,.string ⟨#[]⟩,.string ⟨#[]⟩,.slice none 0 0,.int .i64 0,.int .i64 0] rfl rfl _ _ hb3 (by simp[zeros7]) zdQ (by intro v hv;simp[zeros7]at hv;rcases hv with rfl|rfl|rfl<;>rfl) ?_;intro ws3 hc3 hgs3;rw[zaW _ _ (by simp[zeros7])]at hc3;have HM3:=Lib.hid (zao (Below.refl _ _) HA3.out HG3.out hgs3);have HC3:=Lib.hid hc3;have hcx:=HC13.out.below HM3.out HC13.out.lt;have q2:=hcx.cell 2;have q4:=hcx.cell 4;have qe:=((HM13.out.trans (HM3.out.mono HM13.out.size)).cell (p:=⟨b,o,none⟩) HLT.out).trans HCL.out;clear hcx;clear hgs3 hb3 hc3;try go_frame)
  |(go_at_call 26;(with_reducible refine(znw d x _ (HCE.out.below HM3.out) (HA.out.below (HB3.out.trans (HM3.out.mono HB3.out.size))).ask.tab).mono ?_);rintro e w4 ⟨rfl,hb⟩;have HB4:=Lib.hid ((HB3.out.trans (HM3.out.mono HB3.out.size)).trans (hb.mono (HB3.out.trans (HM3.out.mono HB3.out.size)).size));clear hb))
 go_ret
 exact⟨rfl,HB4.out⟩
theorem znd (s:ByteArray) (w:World):
  Calls Tryz.prog 59 #[.string s] w fun e w'=>e= .returned (.bool (visL (strL s)))∧w=w':=by
 have HLEN:=Lib.hid (zaX s)
 by_cases h1:s.size=0
 ·obtain rfl:=zfZ h1
  go_enter Tryz.func59,Tryz.ntmps59
  go_wp2
  go_ret
  exact⟨rfl,rfl⟩
 ·have h0: ¬(s.size:Int)<1:=by omega
  have h00:decide ((s.size:Int)<1)=false:=decide_eq_false h0
  have hne2:=zco h1
  have hne3:=zbx h1
  by_cases h2:s.size≤64
  ·have h3: ¬(64:Int)<(s.size:Int):=by omega
   obtain⟨R,hR⟩: ∃R,R=visL (strL s):=⟨_,rfl⟩
   have HR0:Hid (R=(strL s).all (fun x=>decide (33≤x∧x≤126))):=Lib.hid (by
    rw[hR];unfold visL
    rw[decide_eq_true (by rw[zaX];omega),Bool.true_and])
   rw[←hR]
   clear hR
   go_enter Tryz.func59,Tryz.ntmps59
   go_wp2
   go_loop [3] (fun v=> ∃k:Nat,k≤s.size∧v= .int .i64 (k:Int)∧R=((strL s).drop k).all (fun x=>decide (33≤x∧x≤126))) (fun v=>s.size-(intOf v).toNat)
   case atStart=>exact⟨0,Nat.zero_le _,rfl,HR0.out⟩
   case round=>
    clear HR0
    obtain⟨k,hk,rfl,hrun⟩:=hrel
    have HRUN:=Lib.hid hrun
    clear hrun
    by_cases hlt:k<s.size
    ·have hd:=zhv s k hlt
     have hi0:(0:Int)≤(k:Int):=by omega
     have hcb:=s[k].toNat_lt
     obtain⟨c,hc⟩: ∃c,c=(s[k].toNat:Int):=⟨_,rfl⟩
     by_cases ha:(s[k].toNat:Int)<33
     ·have HR:Hid (R=false):=Lib.hid (by rw[HRUN.out,hd,List.all_cons,decide_eq_false (by omega),Bool.false_and])
      have ha2:decide ((s[k].toNat:Int)<33)=true:=decide_eq_true ha
      clear hd hc
      go_wp2
      go_ret
      exact⟨zax HR.out.symm,rfl⟩
     ·have ha2:decide ((s[k].toNat:Int)<33)=false:=decide_eq_false ha
      by_cases hb:(126:Int)<(s[k].toNat:Int)
      ·have HR:Hid (R=false):=Lib.hid (by rw[HRUN.out,hd,List.all_cons,decide_eq_false (by omega),Bool.false_and])
       have hb2:decide ((126:Int)<(s[k].toNat:Int))=true:=decide_eq_true hb
       clear hd hc
       go_wp2
       go_ret
       exact⟨zax HR.out.symm,rfl⟩
      ·have HR:Hid (R=((strL s).drop (k+1)).all (fun x=>decide (33≤x∧x≤126))):=Lib.hid (by rw[HRUN.out,hd,List.all_cons,decide_eq_true (by omega),Bool.true_and])
       have hb2:decide ((126:Int)<(s[k].toNat:Int))=false:=decide_eq_false hb
       clear hd hc
       go_wp2
       go_round
       case rel=>exact⟨k+1,by omega,by go_num,HR.out⟩
       case measure=>simp[intOf];omega
    ·obtain rfl:k=s.size:=by omega
     have HR:Hid (R=true):=Lib.hid (by rw[HRUN.out,List.drop_of_length_le (by rw[zaX];omega)];rfl)
     have hlt2: ¬(s.size:Int)<(s.size:Int):=by omega
     go_wp2
     go_ret
     exact⟨zax HR.out.symm,rfl⟩
  ·have h3:(64:Int)<(s.size:Int):=by omega
   have HR:Hid (visL (strL s)=false):=Lib.hid (by unfold visL;rw[decide_eq_false (by rw[zaX];omega),Bool.false_and])
   clear h2
   go_enter Tryz.func59,Tryz.ntmps59
   go_wp2
   go_ret
   exact⟨zax HR.out.symm,rfl⟩
theorem zfV (t:TokM) (A:Option Addr) (c:Nat) (W:World) (hs:SliceN W (.slice A t.sc.length c) t.sc) (hn:t.sc.length≤1000000000):
  Calls Tryz.prog 25 #[.agg #[.string t.iss,.string t.jti,.string t.cid,.string t.sub,.slice A t.sc.length c,.int .i64 t.iat,.int .i64 t.exp]] W fun e w'=>e= .returned (.bool (zcl t))∧Below W.heap.size W w':=by
 obtain⟨i,j,d,s,ns,a,b⟩:=t
 show Calls Tryz.prog 25 #[.agg #[.string i,.string j,.string d,.string s,.slice A ns.length c,.int .i64 a,.int .i64 b]] W fun e w'=>e= .returned (.bool (visL (strL i)&&visL (strL j)&&visL (strL d)&&zjp s&&zdc ns&&zbu a b))∧Below W.heap.size W w'
 have hB1:=zaf W (.cells #[.string i,.string j,.string d,.string s,.slice A ns.length c,.int .i64 a,.int .i64 b] 43)
 have hbk:Blk (W.alloc (.cells #[.string i,.string j,.string d,.string s,.slice A ns.length c,.int .i64 a,.int .i64 b] 43)) W.heap.size 43 [.string i,.string j,.string d,.string s,.slice A ns.length c,.int .i64 a,.int .i64 b]:=zcX W rfl [.string i,.string j,.string d,.string s,.slice A ns.length c,.int .i64 a,.int .i64 b] _
 have HV:=Lib.hid znd
 have HC:=Lib.hid (zng _ ns _ (hs.below hB1) hn)
 have HB1:=Lib.hid hB1
 have HNM:=Lib.hid (fun W=>zgr s W)
 obtain⟨p,hp⟩: ∃p,p=visL (strL i):=⟨_,rfl⟩
 obtain⟨q,hq⟩: ∃p,p=visL (strL j):=⟨_,rfl⟩
 obtain⟨r,hr⟩: ∃p,p=visL (strL d):=⟨_,rfl⟩
 obtain⟨u,hu⟩: ∃p,p=zjp s:=⟨_,rfl⟩
 obtain⟨z,hz⟩: ∃p,p=zdc ns:=⟨_,rfl⟩
 obtain⟨m,hm⟩: ∃p,p=zbu a b:=⟨_,rfl⟩
 have HP:=Lib.hid (fun W=>by have:=HV.out i W;rw[←hp]at this;exact this)
 have HQ:=Lib.hid (fun W=>by have:=HV.out j W;rw[←hq]at this;exact this)
 have HR:=Lib.hid (fun W=>by have:=HV.out d W;rw[←hr]at this;exact this)
 rw[←hp,←hq,←hr,←hu,←hz,←hm]
 rw[←hz]at HC
 obtain⟨n,hnn⟩: ∃n,n=ns.length:=⟨_,rfl⟩
 rw[←hnn]at HC HB1 hbk⊢
 have HBK:=Lib.hid hbk
 have HU:=Lib.hid hu
 have HM:=Lib.hid hm
 clear hs hn hB1 hp hq hr hz hu hm HV hnn hbk
 obtain⟨RV,hrv⟩: ∃v,v=(p&&q&&r&&u&&z&&m):=⟨_,rfl⟩
 rw[←hrv]
 have HRV:=Lib.hid hrv
 clear hrv
 go_enter Tryz.func25,Tryz.ntmps25
 go_wp2_with fail
 (with_reducible refine(HP.out _).mono ?_)
 rintro e w' ⟨rfl,rfl⟩
 cases p with
 |false=>
  clear HP HQ HR HC HNM HU HM
  go_wp2
  go_ret
  exact⟨by rw[HRV.out];rfl,HB1.out⟩
 |true=>
  clear HP
  go_wp2_with fail
  (with_reducible refine(HQ.out _).mono ?_)
  rintro e w' ⟨rfl,rfl⟩
  cases q with
  |false=>
   clear HQ HR HC HNM HU HM
   go_wp2
   go_ret
   exact⟨by rw[HRV.out];rfl,HB1.out⟩
  |true=>
   clear HQ
   go_wp2_with fail
   (with_reducible refine(HR.out _).mono ?_)
   rintro e w' ⟨rfl,rfl⟩
   cases r with
   |false=>
    clear HR HC HNM HU HM
    go_wp2
    go_ret
    exact⟨by rw[HRV.out];rfl,HB1.out⟩
   |true=>
    clear HR
    by_cases hs0:s.size=0
    ·obtain rfl:=zfZ hs0
     obtain rfl:u=true:=HU.out
     clear HU hs0 HNM
     go_wp2_with fail
     (with_reducible refine HC.out.mono ?_)
     rintro e w2 ⟨rfl,hb⟩
     have HB2:=Lib.hid (HB1.out.trans (hb.mono HB1.out.size))
     have hbk2:=HBK.out.below hb HBK.out.lt
     have q5:=hbk2.cell 5
     have q6:=hbk2.cell 6
     clear hb hbk2
     cases z with
     |false=>
      clear HC HM
      go_wp2
      go_ret
      exact⟨by rw[HRV.out];rfl,HB2.out⟩
     |true=>
      clear HC
      by_cases t1:0≤a
      ·have t1':decide (0≤a)=true:=decide_eq_true t1
       by_cases t2:a≤b
       ·have t2':decide (a≤b)=true:=decide_eq_true t2
        by_cases t3:b≤2199023255552
        ·have t3':decide (b≤2199023255552)=true:=decide_eq_true t3
         have HM2:Hid (m=true):=Lib.hid (by rw[HM.out];unfold zbu;exact decide_eq_true (by omega))
         go_wp2
         go_ret
         exact⟨by rw[HRV.out,HM2.out];rfl,HB2.out⟩
        ·have t3':decide (b≤2199023255552)=false:=decide_eq_false t3
         have HM2:Hid (m=false):=Lib.hid (by rw[HM.out];unfold zbu;exact decide_eq_false (by omega))
         go_wp2
         go_ret
         exact⟨by rw[HRV.out,HM2.out];rfl,HB2.out⟩
       ·have t2':decide (a≤b)=false:=decide_eq_false t2
        have HM2:Hid (m=false):=Lib.hid (by rw[HM.out];unfold zbu;exact decide_eq_false (by omega))
        go_wp2
        go_ret
        exact⟨by rw[HRV.out,HM2.out];rfl,HB2.out⟩
      ·have t1':decide (0≤a)=false:=decide_eq_false t1
       have HM2:Hid (m=false):=Lib.hid (by rw[HM.out];unfold zbu;exact decide_eq_false (by omega))
       go_wp2
       go_ret
       exact⟨by rw[HRV.out,HM2.out];rfl,HB2.out⟩
    ·have hne:=zco hs0
     have hne3:=zbx hs0
     have HU2:Hid (u=zbh (strL s)):=Lib.hid (by rw[HU.out];unfold zjp;rw[decide_eq_false hs0,Bool.false_or])
     rw[←HU2.out]at HNM
     clear HU HU2 hs0
     go_wp2_with fail
     (with_reducible refine(HNM.out _).mono ?_)
     rintro e w' ⟨rfl,rfl⟩
     cases u with
     |false=>
      clear HC HNM HM
      go_wp2
      go_ret
      exact⟨by rw[HRV.out];rfl,HB1.out⟩
     |true=>
      clear HNM
      go_wp2_with fail
      (with_reducible refine HC.out.mono ?_)
      rintro e w2 ⟨rfl,hb⟩
      have HB2:=Lib.hid (HB1.out.trans (hb.mono HB1.out.size))
      have hbk2:=HBK.out.below hb HBK.out.lt
      have q5:=hbk2.cell 5
      have q6:=hbk2.cell 6
      clear hb hbk2
      cases z with
      |false=>
       clear HC HM
       go_wp2
       go_ret
       exact⟨by rw[HRV.out];rfl,HB2.out⟩
      |true=>
       clear HC
       by_cases t1:0≤a
       ·have t1':decide (0≤a)=true:=decide_eq_true t1
        by_cases t2:a≤b
        ·have t2':decide (a≤b)=true:=decide_eq_true t2
         by_cases t3:b≤2199023255552
         ·have t3':decide (b≤2199023255552)=true:=decide_eq_true t3
          have HM2:Hid (m=true):=Lib.hid (by rw[HM.out];unfold zbu;exact decide_eq_true (by omega))
          go_wp2
          go_ret
          exact⟨by rw[HRV.out,HM2.out];rfl,HB2.out⟩
         ·have t3':decide (b≤2199023255552)=false:=decide_eq_false t3
          have HM2:Hid (m=false):=Lib.hid (by rw[HM.out];unfold zbu;exact decide_eq_false (by omega))
          go_wp2
          go_ret
          exact⟨by rw[HRV.out,HM2.out];rfl,HB2.out⟩
        ·have t2':decide (a≤b)=false:=decide_eq_false t2
         have HM2:Hid (m=false):=Lib.hid (by rw[HM.out];unfold zbu;exact decide_eq_false (by omega))
         go_wp2
         go_ret
         exact⟨by rw[HRV.out,HM2.out];rfl,HB2.out⟩
       ·have t1':decide (0≤a)=false:=decide_eq_false t1
        have HM2:Hid (m=false):=Lib.hid (by rw[HM.out];unfold zbu;exact decide_eq_false (by omega))
        go_wp2
        go_ret
        exact⟨by rw[HRV.out,HM2.out];rfl,HB2.out⟩
end Go.Proofs.YtjfgmgkhinehaaaGreatDoor
