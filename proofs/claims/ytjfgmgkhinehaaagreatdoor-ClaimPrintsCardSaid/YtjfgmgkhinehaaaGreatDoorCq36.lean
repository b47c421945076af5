
import Derived.Deep.AppendLies
import Derived.Test.YtjfgmgkhinehaaaGreatDoorCq04
import Derived.Test.YtjfgmgkhinehaaaGreatDoorCq34
set_option maxRecDepth 100000
set_option maxHeartbeats 16000000
set_option linter.all false
namespace Go.Proofs.YtjfgmgkhinehaaaGreatDoor
open Go Go.RowKit
theorem txt_min:(⟨#[45,57,50,50,51,51,55,50,48,51,54,56,53,52,55,55,53,56,48,56]⟩:ByteArray)=toS (prL (-9223372036854775808)):=by
 have h:prL (-9223372036854775808)=[45,57,50,50,51,51,55,50,48,51,54,56,53,52,55,55,53,56,48,56]:=by
  have:=prL_numL (l:=[45,57,50,50,51,51,55,50,48,51,54,56,53,52,55,55,53,56,48,56]) (by decide)
  rw[show numL [45,57,50,50,51,51,55,50,48,51,54,56,53,52,55,55,53,56,48,56]= -9223372036854775808 by decide]at this
  exact this
 rw[h];rfl
theorem zio (n:Int) (w:World) (h0: -9223372036854775808≤n) (h1:n≤9223372036854775807):
  Calls Tryz.prog 63 #[.int .i64 n] w fun e w'=>e= .returned (.string (toS (prL n)))∧Below w.heap.size w w':=by
 by_cases hn:n<0
 ·by_cases hm:n= -9223372036854775808
  ·subst hm
   rw[←txt_min]
   clear h0 h1 hn
   go_enter Tryz.func63,Tryz.ntmps63
   go_wp2
   go_ret
   exact⟨rfl,Below.refl _ _⟩
  ·obtain⟨m,hmm⟩: ∃m:Nat,(m:Int)= -n:=⟨(-n).toNat,by omega⟩
   have HC:=Lib.hid (fun W:World=>zin m W (by omega))
   have hpr:prL n=[45]++digL m:=by unfold prL;rw[if_pos hn,show n.natAbs=m by omega];rfl
   have HJ:Hid ((⟨#[45]⟩:ByteArray)++toS (digL m)=toS (prL n)):=Lib.hid (by
    rw[hpr,←zcd (.of_mem (by decide)) (zmg m)];rfl)
   have hlen:(digL m).length≤20:=zhw 19 m (by omega)
   have hsz:(toS (digL m)).size≤20:=by rw[zap];exact hlen
   have hadd:(⟨#[45]⟩:ByteArray).size+(toS (digL m)).size≤9223372036854775807:=by
    have:(⟨#[45]⟩:ByteArray).size=1:=rfl
    omega
   have hneg:IntKind.i64.wrap (-n)=(m:Int):=by rw[IntKind.wrap_i64,hmm];omega
   have hq:(n== -9223372036854775808)=false:=by rw[beq_eq_false_iff_ne];exact hm
   obtain⟨T,hT⟩: ∃T,T=toS (digL m):=⟨_,rfl⟩
   rw[←hT]at HC HJ hadd
   rw[hmm]at HC
   have hneg2: -n≤9223372036854775807:=by omega
   clear hpr hlen hsz hT hm h1 hmm hneg
   go_enter Tryz.func63,Tryz.ntmps63
   go_wp2_with(go_at_call 63;(with_reducible refine(HC.out w).mono ?_);rintro e w' ⟨rfl,hb⟩;have HB:=Lib.hid hb;clear hb)
   go_ret
   rw[HJ.out]
   exact⟨rfl,HB.out⟩
 ·obtain⟨m,rfl⟩:=Int.eq_ofNat_of_zero_le (show 0≤n by omega)
  have:=zin m w h1
  rwa [show digL m=prL (m:Int)by unfold prL;rw[if_neg hn];rfl]at this
def hexS (d:Int):Int:=if d<10 then 48+d else 87+d
def qOne (c:Int):List Int:=if c<32 then[92,117,48,48,hexS (c/16),hexS (c%16)]else if c=34∨c=92 then[92,c]else[c]
def qPre (l:List Int):Nat→List Int
 |0=>[34]
 |k+1=>qPre l k++qOne (l.getD k 0)
def zam (l:List Int):List Int:=qPre l l.length++[34]
theorem qOne_len (c:Int):(qOne c).length≤6:=by
 unfold qOne;split
 ·simp
 ·split<;>simp
theorem zni (l:List Int): ∀k,(qPre l k).length≤6*k+1
 |0=>by simp[qPre]
 |k+1=>by
  have:=zni l k
  have:=qOne_len (l.getD k 0)
  rw[qPre,List.length_append];omega
theorem quoteEnd {xs:List Int}:ints .u8 (xs++[34])=ints .u8 xs++[.int .u8 34]:=by rw[zbk];rfl
theorem info5:(Tryz.prog.info? 5).map (fun i=>(i.zero,i.size,i.bytes))=some (some (.int .u8 0),1,1):=by kernel_rfl
theorem hexS_nat: ∀i:Fin 16,(((⟨#[48,49,50,51,52,53,54,55,56,57,97,98,99,100,101,102]⟩:ByteArray)[i.val]'(i.isLt)).toNat:Int)=hexS (i.val:Int):=by decide
theorem zjb (d:Int) (h0:0≤d) (h1:d<16):(((⟨#[48,49,50,51,52,53,54,55,56,57,97,98,99,100,101,102]⟩:ByteArray)[d.toNat]'(by show _<16;omega)).toNat:Int)=hexS d:=by
 have:=hexS_nat ⟨d.toNat,by omega⟩
 rw[show(((⟨d.toNat,by omega⟩:Fin 16).val:Nat):Int)=d from by show((d.toNat:Nat):Int)=d;omega]at this
 exact this
theorem zds (s:ByteArray) (w:World) (hs:s.size≤1000000):
  Calls Tryz.prog 62 #[.string s] w fun e w'=>e= .returned (.string (toS (zam (strL s))))∧Below w.heap.size w w':=by
 have HL:=Lib.hid (zaX s)
 obtain⟨i0,hi0,hz0,hz1,hz2⟩:=info_parts info5
 have hown0:(w.alloc (.cells #[.int .u8 34] 5)).ownsRow w.heap.size 5 1 (.slice (some ⟨w.heap.size,0,none⟩) 1 1) 1 [.int .u8 34]:=World.ownsRow_lit w #[.int .u8 34] 1 (Nat.le_refl _) (by unfold maxLen;omega) rfl
 have HO0:=Lib.hid hown0
 clear hown0
 go_enter Tryz.func62,Tryz.ntmps62
 go_wp2
 go_loopw[3,4] (fun v i wr=> ∃(k n:Nat) (xs:List Int),k≤s.size∧i= .int .i64 (k:Int)∧xs=qPre (strL s) k∧n=xs.length∧n≤6*k+1∧wr.ownsRow w.heap.size 5 1 v n (ints .u8 xs)∧Below w.heap.size w wr) (fun _ i _=>s.size-(intOf i).toNat)
 case atStart=>exact⟨0,1,[34],by omega,rfl,rfl,rfl,by omega,HO0.out,zaf _ _⟩
 case round=>
  clear HO0
  obtain⟨k,n,xs,hk,rfl,hxs,hn,hn6,hown,hbel⟩:=hrel
  have HOW:=Lib.hid hown
  have HBE:=Lib.hid hbel
  have HXS:=Lib.hid hxs
  have HN:=Lib.hid hn
  have hsz:w.heap.size≤wr.heap.size:=hbel.size
  clear hown hbel hxs hn
  by_cases h:k<s.size
  ·have HG:=Lib.hid (zaz s k h)
   have hkI:(k:Int)<(s.size:Int):=by omega
   have hk0:(0:Int)≤(k:Int):=by omega
   have HQ:Hid (∀c,(s[k].toNat:Int)=c→qPre (strL s) (k+1)=xs++qOne c):=Lib.hid fun c hc=>by rw[qPre,←HXS.out,HG.out,hc]
   obtain⟨c,hc⟩: ∃c:Int,c=(s[k].toNat:Int):=⟨_,rfl⟩
   have hcb:0≤c∧c≤255:=by rw[hc];have:=(s[k]).toNat_lt;omega
   have HNX:=Lib.hid (HQ.out c hc.symm)
   obtain⟨c0,c1⟩:=hcb
   by_cases h32:c<32
   ·have HE:Hid (qOne c=[92,117,48,48,hexS (c/16),hexS (c%16)]):=Lib.hid (by unfold qOne;rw[if_pos h32])
    have hc2:(s[k].toNat:Int)=c:=hc.symm
    have htd:c.tdiv 16=c/16:=Int.tdiv_eq_ediv_of_nonneg c0
    have htm:c.tmod 16=c%16:=Int.tmod_eq_emod_of_nonneg c0
    have hq0:0≤c/16:=by omega
    have hq1:c/16<16:=by omega
    have hr0:0≤c%16:=by omega
    have hr1:c%16<16:=by omega
    have hwq:IntKind.u8.wrap (c/16)=c/16:=by rw[IntKind.wrap_u8];omega
    have hwr:IntKind.u8.wrap (c%16)=c%16:=by rw[IntKind.wrap_u8];omega
    have hp1:Hid ((c/16).toNat<(⟨#[48,49,50,51,52,53,54,55,56,57,97,98,99,100,101,102]⟩:ByteArray).size):=Lib.hid (by show _<16;omega)
    have hp2:Hid ((c%16).toNat<(⟨#[48,49,50,51,52,53,54,55,56,57,97,98,99,100,101,102]⟩:ByteArray).size):=Lib.hid (by show _<16;omega)
    have HF:Hid (ints .u8 (qPre (strL s) (k+1))=ints .u8 xs++[.int .u8 92,.int .u8 117,.int .u8 48,.int .u8 48,.int .u8 ((⟨#[48,49,50,51,52,53,54,55,56,57,97,98,99,100,101,102]⟩:ByteArray)[(c/16).toNat]'(hp1.out)).toNat,.int .u8 ((⟨#[48,49,50,51,52,53,54,55,56,57,97,98,99,100,101,102]⟩:ByteArray)[(c%16).toNat]'(hp2.out)).toNat]):=Lib.hid (by
     rw[HNX.out,HE.out,zbk,←zjb _ hq0 hq1,←zjb _ hr0 hr1];rfl)
    have HFL:Hid ((qPre (strL s) (k+1)).length=n+6):=Lib.hid (by rw[HNX.out,HE.out,List.length_append,←HN.out];rfl)
    clear hc
    go_wp2_with fail
    go_region_held3(fun _=>True) (trivial)
     ((refine step_append_lies _ (by rfl) _ _ _ (by rfl) w.heap.size 5 i0 _ 1 1 Tryz.underlying80 hi0 hz0 hz1 hz2 rfl (by omega) u3 n (ints .u8 xs) (by rfl) ((HOW.out.alloc _).drew) ⟨wr.heap.size,0,none⟩ 6 6 [.int .u8 92,.int .u8 117,.int .u8 48,.int .u8 48,.int .u8 ((⟨#[48,49,50,51,52,53,54,55,56,57,97,98,99,100,101,102]⟩:ByteArray)[(c/16).toNat]'(hp1.out)).toNat,.int .u8 ((⟨#[48,49,50,51,52,53,54,55,56,57,97,98,99,100,101,102]⟩:ByteArray)[(c%16).toNat]'(hp2.out)).toNat] (by rfl) (by rfl) (World.news_of_block (cs:= #[.int .u8 92,.int .u8 117,.int .u8 48,.int .u8 48,.int .u8 ((⟨#[48,49,50,51,52,53,54,55,56,57,97,98,99,100,101,102]⟩:ByteArray)[(c/16).toNat]'(hp1.out)).toNat,.int .u8 ((⟨#[48,49,50,51,52,53,54,55,56,57,97,98,99,100,101,102]⟩:ByteArray)[(c%16).toNat]'(hp2.out)).toNat]) (t:=5) (fr:=(0,0)) (heap_alloc_new wr _)) (by simp[Value.oneCell']) (by omega) (by unfold maxLen;omega) (by omega) (by simp;omega) (wr.heap.size+1) (by simp) ?_;intro gg cap w1' hown1 hgrow hat hlt2))
    all_goals
     have HW:Hid (w1'.ownsRow w.heap.size 5 1 (.slice (some ⟨gg,0,none⟩) (n+6) cap) (n+6) (ints .u8 (qPre (strL s) (k+1)))∧Below w.heap.size w w1'):=Lib.hid ⟨by rw[HF.out];exact hown1,(HBE.out.alloc hsz _).drew.grown hgrow (by simp;omega) (zka HOW.out)⟩
     clear hown1 hgrow hat hlt2
     go_wp2_with fail
     exact⟨⟨k+1,n+6,_,by omega,by go_num,rfl,HFL.out.symm,by omega,HW.out.1,HW.out.2⟩,by simp[intOf];omega⟩
   ·by_cases hq:c=34∨c=92
    ·have HE:Hid (qOne c=[92,c]):=Lib.hid (by unfold qOne;rw[if_neg h32,if_pos hq])
     have hnl: ¬(s[k].toNat:Int)<32:=by rw[←hc];exact h32
     rw[hc]at HE HNX hq
     have key:((s[k].toNat:Int)==34)=true∨((s[k].toNat:Int)==34)=false∧((s[k].toNat:Int)==92)=true:=by
      rcases hq with hq|hq
      ·exact .inl (by rw[beq_iff_eq];exact hq)
      ·exact .inr ⟨by rw[hq];rfl,by rw[beq_iff_eq];exact hq⟩
     clear hq hc h32 c0 c1
     rcases key with n1|⟨n1,n2⟩
     ·go_wp2_with(first
       |(at_builtin;refine wpList_append_own _ rfl (.tmp 33) (.tmp 34) 80 rfl w.heap.size 5 i0 (.int .u8 0) 1 1 Tryz.underlying80 hi0 hz0 hz1 hz2 rfl (by decide) _ n _ rfl (HOW.out.alloc _) ⟨wr.heap.size,0,none⟩ 1 1 [.int .u8 92] rfl rfl ?e1 ?e2 ?e3 ?e4 ?e5 ?_))
      case e2=>first|rfl|(intro u hu;rw[List.mem_singleton.1 hu];rfl)
      case e3=>unfold maxLen;omega
      case e4=>omega
      case e5=>first|omega|(simp;omega)
      intro v' w' hown' hgr _
      have HW:Hid (w'.ownsRow w.heap.size 5 1 v' (n+1) (ints .u8 (xs++[92]))∧Below w.heap.size w w'):=Lib.hid ⟨by rw[zbk];exact hown',(HBE.out.alloc hsz _).grown hgr (by simp;omega) (zka HOW.out)⟩
      have hsz2:w.heap.size≤w'.heap.size:=HW.out.2.size
      clear hown' hgr
      go_wp2_with(first
       |(at_builtin;refine wpList_append_own _ rfl (.tmp 36) (.tmp 38) 80 rfl w.heap.size 5 i0 (.int .u8 0) 1 1 Tryz.underlying80 hi0 hz0 hz1 hz2 rfl (by decide) _ (n+1) _ rfl (HW.out.1.alloc _) ⟨w'.heap.size,0,none⟩ 1 1 [.int .u8 (s[k].toNat:Int)] rfl rfl ?ey1 ?ey2 ?ey3 ?ey4 ?ey5 ?_))
      case ey1=>exact cell_one_new _ _ _
      case ey3=>unfold maxLen;omega
      case ey4=>omega
      case ey2=>first|rfl|(intro u hu;rw[List.mem_singleton.1 hu];rfl)
      case ey5=>first|omega|(simp;omega)
      intro v2 w2 hown2 hgr2 _
      have HW2:Hid (w2.ownsRow w.heap.size 5 1 v2 (n+2) (ints .u8 (xs++[92,(s[k].toNat:Int)]))∧Below w.heap.size w w2):=Lib.hid ⟨by rw[show xs++[92,(s[k].toNat:Int)]=(xs++[92])++[(s[k].toNat:Int)]by simp,zbk];exact hown2,(HW.out.2.alloc hsz2 _).grown hgr2 (by simp;omega) (zka HW.out.1)⟩
      clear hown2 hgr2
      go_wp2_with fail
      go_roundw
      case rel=>exact⟨k+1,n+2,_,by omega,by go_num,by rw[HNX.out,HE.out],by rw[List.length_append,←HN.out];rfl,by omega,HW2.out.1,HW2.out.2⟩
      case measure=>simp[intOf];omega
     ·go_wp2_with(first
       |(at_builtin;refine wpList_append_own _ rfl (.tmp 33) (.tmp 34) 80 rfl w.heap.size 5 i0 (.int .u8 0) 1 1 Tryz.underlying80 hi0 hz0 hz1 hz2 rfl (by decide) _ n _ rfl (HOW.out.alloc _) ⟨wr.heap.size,0,none⟩ 1 1 [.int .u8 92] rfl rfl ?f1 ?f2 ?f3 ?f4 ?f5 ?_))
      case f2=>first|rfl|(intro u hu;rw[List.mem_singleton.1 hu];rfl)
      case f3=>unfold maxLen;omega
      case f4=>omega
      case f5=>first|omega|(simp;omega)
      intro v' w' hown' hgr _
      have HW:Hid (w'.ownsRow w.heap.size 5 1 v' (n+1) (ints .u8 (xs++[92]))∧Below w.heap.size w w'):=Lib.hid ⟨by rw[zbk];exact hown',(HBE.out.alloc hsz _).grown hgr (by simp;omega) (zka HOW.out)⟩
      have hsz2:w.heap.size≤w'.heap.size:=HW.out.2.size
      clear hown' hgr
      go_wp2_with(first
       |(at_builtin;refine wpList_append_own _ rfl (.tmp 36) (.tmp 38) 80 rfl w.heap.size 5 i0 (.int .u8 0) 1 1 Tryz.underlying80 hi0 hz0 hz1 hz2 rfl (by decide) _ (n+1) _ rfl (HW.out.1.alloc _) ⟨w'.heap.size,0,none⟩ 1 1 [.int .u8 (s[k].toNat:Int)] rfl rfl ?fy1 ?fy2 ?fy3 ?fy4 ?fy5 ?_))
      case fy1=>exact cell_one_new _ _ _
      case fy3=>unfold maxLen;omega
      case fy4=>omega
      case fy2=>first|rfl|(intro u hu;rw[List.mem_singleton.1 hu];rfl)
      case fy5=>first|omega|(simp;omega)
      intro v2 w2 hown2 hgr2 _
      have HW2:Hid (w2.ownsRow w.heap.size 5 1 v2 (n+2) (ints .u8 (xs++[92,(s[k].toNat:Int)]))∧Below w.heap.size w w2):=Lib.hid ⟨by rw[show xs++[92,(s[k].toNat:Int)]=(xs++[92])++[(s[k].toNat:Int)]by simp,zbk];exact hown2,(HW.out.2.alloc hsz2 _).grown hgr2 (by simp;omega) (zka HW.out.1)⟩
      clear hown2 hgr2
      go_wp2_with fail
      go_roundw
      case rel=>exact⟨k+1,n+2,_,by omega,by go_num,by rw[HNX.out,HE.out],by rw[List.length_append,←HN.out];rfl,by omega,HW2.out.1,HW2.out.2⟩
      case measure=>simp[intOf];omega
    ·have n1:(c==34)=false:=by rw[beq_eq_false_iff_ne];omega
     have n2:(c==92)=false:=by rw[beq_eq_false_iff_ne];omega
     have HE:Hid (qOne c=[c]):=Lib.hid (by unfold qOne;rw[if_neg h32,if_neg hq])
     have hnl: ¬(s[k].toNat:Int)<32:=by rw[←hc];exact h32
     rw[hc]at n1 n2 HE HNX
     clear hq hc h32 c0 c1
     go_wp2_with(first
      |(at_builtin;refine wpList_append_own _ rfl (.tmp 36) (.tmp 38) 80 rfl w.heap.size 5 i0 (.int .u8 0) 1 1 Tryz.underlying80 hi0 hz0 hz1 hz2 rfl (by decide) _ n _ rfl (HOW.out.alloc _) ⟨wr.heap.size,0,none⟩ 1 1 [.int .u8 (s[k].toNat:Int)] rfl rfl ?c1 ?c2 ?c3 ?c4 ?c5 ?_))
     case c2=>first|rfl|(intro u hu;rw[List.mem_singleton.1 hu];rfl)
     case c3=>unfold maxLen;omega
     case c4=>omega
     case c5=>first|omega|(simp;omega)
     intro v' w' hown' hgr _
     have HW:Hid (w'.ownsRow w.heap.size 5 1 v' (n+1) (ints .u8 (xs++[(s[k].toNat:Int)]))∧Below w.heap.size w w'):=Lib.hid ⟨by rw[zbk];exact hown',(HBE.out.alloc hsz _).grown hgr (by simp;omega) (zka HOW.out)⟩
     clear hown' hgr
     go_wp2_with fail
     go_roundw
     case rel=>exact⟨k+1,n+1,_,by omega,by go_num,by rw[HNX.out,HE.out],by rw[List.length_append,←HN.out];rfl,by omega,HW.out.1,HW.out.2⟩
     case measure=>simp[intOf];omega
  ·obtain rfl:k=s.size:=by omega
   have hkI: ¬(s.size:Int)<(s.size:Int):=by omega
   have HE:Hid (zam (strL s)=xs++[34]):=Lib.hid (by rw[zam,HL.out,HXS.out])
   go_wp2_with(first
    |(at_builtin;refine wpList_append_own _ rfl (.tmp 40) (.tmp 41) 80 rfl w.heap.size 5 i0 (.int .u8 0) 1 1 Tryz.underlying80 hi0 hz0 hz1 hz2 rfl (by decide) _ n _ rfl (HOW.out.alloc _) ⟨wr.heap.size,0,none⟩ 1 1 [.int .u8 34] rfl rfl ?d1 ?d2 ?d3 ?d4 ?d5 ?_))
   case d2=>first|rfl|(intro u hu;rw[List.mem_singleton.1 hu];rfl)
   case d3=>unfold maxLen;omega
   case d4=>omega
   case d5=>first|omega|(simp;omega)
   intro v' w' hown' hgr _
   have hO:w'.ownsRow w.heap.size 5 1 v' (n+1) (ints .u8 (xs++[34])):=by rw[quoteEnd];exact hown'
   have HB:=Lib.hid ((HBE.out.alloc hsz (.cells #[.int .u8 34] 5)).grown hgr (by simp;omega) (zka HOW.out))
   obtain⟨A,c,rfl,_,hlie⟩:=own_lies hO (by rw[List.length_append,←HN.out];rfl)
   have hcv:=zcV A (xs++[34]) (n+1) c w' (by rw[List.length_append,←HN.out];rfl) hlie
   rw[←HE.out]at hcv
   obtain⟨T,hT⟩: ∃T,T=toS (zam (strL s)):=⟨_,rfl⟩
   have HT:=Lib.hid hT
   rw[←hT]at hcv
   obtain⟨m,hm⟩: ∃m,m=n+1:=⟨_,rfl⟩
   rw[←hm]at hcv
   rw[←hm]
   clear hown' hgr hO hlie hT hm
   go_wp2_with fail
   go_ret
   rw[←HT.out]
   exact⟨rfl,HB.out⟩
theorem zoa (n:Int) (w:World) (h0: -9223372036854775808≤n) (h1:n≤9223372036854775807):
  Calls Tryz.prog 151 #[.int .i64 n] w fun e w'=>e= .returned (.int .i64 (-(n.natAbs:Int)))∧w=w':=by
 by_cases h:0<n
 ·have HR:Hid (-(n.natAbs:Int)= -n):=Lib.hid (by omega)
  go_enter Tryz.func151,Tryz.ntmps151
  go_wp2
  go_ret
  rw[HR.out]
  exact⟨rfl,rfl⟩
 ·have HR:Hid (-(n.natAbs:Int)=n):=Lib.hid (by omega)
  go_enter Tryz.func151,Tryz.ntmps151
  go_wp2
  go_ret
  rw[HR.out]
  exact⟨rfl,rfl⟩
end Go.Proofs.YtjfgmgkhinehaaaGreatDoor
