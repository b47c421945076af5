
import Derived.Lib.AppendStr
import Derived.Lib.Builder
import Derived.Test.YtceddodfddlncaaGreatDoorJb19
set_option maxRecDepth 100000
set_option maxHeartbeats 16000000
set_option linter.all false
namespace Go.Proofs.YtceddodfddlncaaGreatDoor
open Go Go.RowKit
theorem zdW {w:World} {base n size:Nat} {e:TypeId} {v:Value} {xs:List Value} (h:w.ownsRow base e size v n xs): ∃A c,v= .slice A n c:=by
 rcases h.2 with⟨h,h0⟩|⟨g,cap,cur,h,_⟩
 ·exact⟨none,0,by rw[h0];exact h⟩
 ·exact⟨_,cap,h⟩
structure WSt (W0 w:World) (wb:Nat) (acc:List Int) (v:Value):Prop where
 blk:Blk w wb 172 [v]
 own:w.ownsRow (wb+1) 5 1 v acc.length (ints .u8 acc)
 bel:Below W0.heap.size W0 w
 ge:W0.heap.size≤wb
 bts:Bytes acc
def KeepJ (w w':World):Prop:=w.heap.size≤w'.heap.size∧ ∀b cs,Blk w b 63 cs→Blk w' b 63 cs
theorem KeepJ.refl (w:World):KeepJ w w:=⟨Nat.le_refl _,fun _ _ h=>h⟩
theorem KeepJ.trans {a b c:World} (h:KeepJ a b) (k:KeepJ b c):KeepJ a c:=⟨Nat.le_trans h.1 k.1,fun x cs hx=>k.2 x cs (h.2 x cs hx)⟩
theorem KeepJ.below {a b:World} (h:Below a.heap.size a b):KeepJ a b:=⟨h.size,fun x cs hx=>hx.below h hx.lt⟩
theorem KeepJ.grownN {a b:World} (h:a.grownBy b none):KeepJ a b:=⟨h.size,fun x cs hx=>hx.grownN h⟩
theorem WSt.moved {W0 w w':World} {wb:Nat} {acc:List Int} {v:Value} (h:WSt W0 w wb acc v) (hg:w.grownBy w' none):WSt W0 w' wb acc v:=
 ⟨h.blk.grownN hg,h.own.kept hg (Classical.em _),h.bel.grown hg h.bel.size (fun k hk=>by cases hk),h.ge,h.bts⟩
theorem WSt.below {W0 w w':World} {wb:Nat} {acc:List Int} {v:Value} (h:WSt W0 w wb acc v) (hb:Below w.heap.size w w'):WSt W0 w' wb acc v:=h.moved (zaX hb none)
theorem row_notJ {w:World} {base n:Nat} {v:Value} {xs:List Value} (h:w.ownsRow base 5 1 v n xs) {b:Nat} {t:TypeId} {cs:List Value} (hb:Blk w b t cs) (ht:t≠5):v.ownBlock≠some b:=fun e=>by
 rcases h.2 with⟨rfl,_⟩|⟨g,cap,cur,rfl,hg,hcell,_⟩
 ·simp[Value.ownBlock]at e
 ·have e:g=b:=by simpa[Value.ownBlock]using e
  subst e
  have:=hcell.symm.trans hb
  injection this with this
  injection this with _ this
  exact ht this.symm
theorem WSt.more {W0 w w5:World} {wb:Nat} {acc t:List Int} {v v':Value} (h:WSt W0 w wb acc v) (hgr:w.grownBy w5 v.ownBlock) (hown:w5.ownsRow (wb+1) 5 1 v' (acc.length+t.length) (ints .u8 acc++ints .u8 t)) (ht:Bytes t):
  WSt W0 (w5.setCell ⟨wb,0,none⟩ v') wb (acc++t) v'∧KeepJ w (w5.setCell ⟨wb,0,none⟩ v'):=by
 have g7:=zaV w5 wb 0 v'
 have lv:=fun k hk=>(h.own.lt k hk).1
 have b5:Blk w5 wb 172 [v]:=h.blk.grown hgr (fun e=>by have:=lv _ e.symm;omega)
 refine⟨⟨b5.setCell 0 v',?_,?_,h.ge,h.bts.append ht⟩,Nat.le_trans hgr.size g7.size,fun b cs hb=> ?_⟩
 ·rw[List.length_append,zbK]
  refine hown.kept g7 ?_
  cases hv:v'.ownBlock with
  |none=>exact .inl rfl
  |some g=>exact .inr (fun e=>by injection e with e;have:=(hown.lt g hv).1;omega)
 ·have hge:=h.ge
  refine(h.bel.grown hgr h.bel.size (fun k hk=> ?_)).grown g7 (Nat.le_trans h.bel.size hgr.size) (fun k hk=> ?_)
  ·have:=lv k hk;omega
  ·injection hk with hk;omega
 ·have h5:Blk w5 b 63 cs:=hb.grown hgr (fun e=>row_notJ h.own hb (by decide) e.symm)
  exact h5.grown g7 (fun e=>by
   injection e with e
   subst e
   have:=hb.symm.trans h.blk
   injection this with this
   injection this with _ this
   exact absurd this (by decide))
def zoQ (W0 w:World) (wb:Nat) (acc:List Int) (e:Ending) (w':World):Prop:=e= .returned (.tuple #[])∧(∃v,WSt W0 w' wb acc v)∧KeepJ w w'
theorem zdn (W0 w:World) (wb:Nat) (acc:List Int) (v:Value) (s:ByteArray) (h:WSt W0 w wb acc v) (hlen:acc.length+s.size≤140737488355328):
  Calls Tryz.prog 146 #[.pointer (some ⟨wb,0,none⟩),.string s] w (zoQ W0 w wb (acc++strL s)):=by
 obtain⟨i0,hi,hz0,hz1,hz2⟩:=info_parts info5
 have HH:=Lib.hid h
 have c0:w.cell? ⟨wb,0,none⟩=some v:=h.blk.cell 0
 have hlt:=h.blk.lt
 have hge:=h.ge
 have HOW:=Lib.hid h.own
 have hs:s.size=(strL s).length:=(zaQ s).symm
 have HS:=Lib.hid hs
 obtain⟨n,hn⟩: ∃n,n=acc.length:=⟨_,rfl⟩
 rw[←hn]at HOW hlen
 have HN:=Lib.hid hn
 clear h hs hn
 go_enter Tryz.func146,Tryz.ntmps146
 go_wp2_with(at_builtin;refine Lib.wpList_append_own_string _ rfl _ _ 46 9 rfl (wb+1) 5 i0 Tryz.underlying46 Tryz.underlying9 hi hz0 hz1 hz2 v n _ rfl HOW.out s rfl ?c3 ?c4 ?c5 ?_)
 case c3=>unfold maxLen;omega
 case c4=>omega
 case c5=>omega
 intro v' w2 hown' hgrow _
 have hown2:w2.ownsRow (wb+1) 5 1 v' (acc.length+(strL s).length) (ints .u8 acc++ints .u8 (strL s)):=by
  rw[←HS.out,←HN.out,show ints .u8 (strL s)=Lib.strCells s by simp[Lib.strCells,ints,strL,List.map_map,Function.comp_def]];exact hown'
 have HM:=Lib.hid (HH.out.more hgrow hown2 (zaz s))
 have hb2:Blk w2 wb 172 [v]:=HH.out.blk.grown hgrow (fun e=>by have:=(HH.out.own.lt _ e.symm).1;omega)
 have d0:=hb2.cell 0
 have f0:=hb2.frozen 0
 obtain⟨A',c',hv'⟩:=zdW hown2
 rw[hv']at HM⊢
 clear hown' hgrow hown2 hb2 hv'
 go_wp2
 go_end0
 exact⟨rfl,⟨_,HM.out.1⟩,HM.out.2⟩
theorem full_any (W0 w:World) (wb:Nat) (acc:List Int) (v:Value) (h:WSt W0 w wb acc v):
  Calls Tryz.prog 114 #[.pointer (some ⟨wb,0,none⟩)] w fun e w'=>e= .returned (.bool (decide (4096<acc.length)))∧w=w':=by
 obtain⟨A,c,rfl⟩:=zdW h.own
 have c0:w.cell? ⟨wb,0,none⟩=some (.slice A acc.length c):=h.blk.cell 0
 obtain⟨n,hn⟩: ∃n,n=acc.length:=⟨_,rfl⟩
 rw[←hn]at c0⊢
 clear h hn
 go_enter Tryz.func114,Tryz.ntmps114
 go_wp2
 go_ret
 have hd:decide ((4096:Int)<(n:Int))=decide (4096<n):=by
  by_cases h:4096<n
  ·rw[decide_eq_true h];exact decide_eq_true (by omega)
  ·rw[decide_eq_false h];exact decide_eq_false (by omega)
 exact⟨congrArg (fun b=>Ending.returned (.bool b)) hd,rfl⟩
theorem truth_any (W0 w:World) (wb:Nat) (acc:List Int) (v:Value) (n:Int) (h:WSt W0 w wb acc v) (hlen:acc.length+10≤140737488355328):
  Calls Tryz.prog 147 #[.pointer (some ⟨wb,0,none⟩),.int .i64 n] w (zoQ W0 w wb (acc++(if n=0 then[102,97,108,115,101]else[116,114,117,101]))):=by
 have HP:=Lib.hid (fun s (hs:s.size≤10)=>zdn W0 w wb acc v s h (by omega))
 clear h
 by_cases h0:n=0
 ·rw[if_pos h0]
  have h0':(n==0)=true:=by rw[beq_iff_eq];exact h0
  clear h0
  go_enter Tryz.func147,Tryz.ntmps147
  go_wp2_with(go_at_call 146;(with_reducible refine(HP.out _ (by decide)).mono ?_);rintro e w' ⟨rfl,hw,hk⟩;have HF:=Lib.hid (And.intro hw hk);clear hw hk)
  go_end0
  exact⟨rfl,HF.out.1,HF.out.2⟩
 ·rw[if_neg h0]
  have h0':(n==0)=false:=by rw[beq_eq_false_iff_ne];exact h0
  go_enter Tryz.func147,Tryz.ntmps147
  go_wp2_with(go_at_call 146;(with_reducible refine(HP.out _ (by decide)).mono ?_);rintro e w' ⟨rfl,hw,hk⟩;have HF:=Lib.hid (And.intro hw hk);clear hw hk)
  go_end0
  exact⟨rfl,HF.out.1,HF.out.2⟩
def Wr (acc t acc':List Int):Prop:=acc'=acc++t∨(4096<acc'.length∧4096<acc.length+t.length∧acc'.length≤acc.length+t.length)
theorem Wr.len {acc t acc':List Int} (h:Wr acc t acc'):acc'.length≤acc.length+t.length:=by
 rcases h with rfl|⟨_,_,h⟩
 ·rw[List.length_append];exact Nat.le_refl _
 ·exact h
theorem Wr.trans {a t b u c:List Int} (h:Wr a t b) (k:Wr b u c):Wr a (t++u) c:=by
 have hl:=h.len
 have kl:=k.len
 have e:(t++u).length=t.length+u.length:=List.length_append
 rcases h with rfl|⟨h1,h2,h3⟩
 ·rcases k with rfl|⟨k1,k2,k3⟩
  ·exact .inl (by rw[List.append_assoc])
  ·rw[List.length_append]at k2 k3
   exact .inr ⟨k1,by omega,by omega⟩
 ·rcases k with rfl|⟨k1,k2,k3⟩
  ·refine .inr ⟨?_,by omega,by omega⟩
   rw[List.length_append];omega
  ·exact .inr ⟨k1,by omega,by omega⟩
theorem qPre_mono (l:List Int) {k n:Nat} (h:k≤n):(qPre l k).length≤(qPre l n).length:=by
 induction n with
 |zero=>rw[Nat.le_zero.1 h];exact Nat.le_refl _
 |succ n ih=>
  by_cases e:k=n+1
  ·rw[e];exact Nat.le_refl _
  ·have:=ih (by omega)
   rw[qPre,List.length_append];omega
theorem and15_nat: ∀i:Fin 32,bits .and .u8 (i.val:Int) 15=(i.val:Int)%16:=by decide+kernel
theorem and15 (c:Int) (h0:0≤c) (h1:c<32):bits .and .u8 c 15=c%16:=by
 have:=and15_nat ⟨c.toNat,by omega⟩
 rwa [show(((⟨c.toNat,by omega⟩:Fin 32).val:Nat):Int)=c from by show((c.toNat:Nat):Int)=c;omega]at this
theorem qOne_bytes {c:Int} (h0:0≤c) (h1:c≤255):Bytes (qOne c):=by
 refine .of_mem fun x hx=> ?_
 unfold qOne at hx
 split at hx
 ·have e1:c/16<10:=by omega
  have e2:0≤c/16∧0≤c%16∧c%16<16:=by omega
  unfold hexS at hx
  simp only[List.mem_cons,List.not_mem_nil,or_false]at hx
  rcases hx with rfl|rfl|rfl|rfl|rfl|rfl<;>(try omega)<;>(split<;>omega)
 ·split at hx
  ·simp only[List.mem_cons,List.not_mem_nil,or_false]at hx
   rcases hx with rfl|rfl<;>omega
  ·simp only[List.mem_cons,List.not_mem_nil,or_false]at hx
   rcases hx with rfl;omega
theorem zjo (W0 w:World) (wb:Nat) (acc:List Int) (v:Value) (s:ByteArray) (h:WSt W0 w wb acc v) (hs:s.size≤1000000000) (hlen:acc.length≤100000000000000):
  Calls Tryz.prog 149 #[.pointer (some ⟨wb,0,none⟩),.string s] w fun e w'=> ∃acc',Wr acc (zar (strL s)) acc'∧zoQ W0 w wb acc' e w':=by
 obtain⟨i0,hi,hz0,hz1,hz2⟩:=info_parts info5
 have HPQ:=Lib.hid (zdn W0 w wb acc v ⟨#[34]⟩ h (by show acc.length+1≤_;omega))
 have HLEN:=Lib.hid (zaQ s)
 clear h
 go_enter Tryz.func149,Tryz.ntmps149
 go_wp2_with(go_at_call 146;(with_reducible refine HPQ.out.mono ?_);rintro e w1 ⟨rfl,hw,hk⟩;have HW1:=Lib.hid hw;have HK1:=Lib.hid hk;clear hw hk)
 go_loopw[4] (fun u wr=> ∃k:Nat,k≤s.size∧u= .int .i64 (k:Int)∧(∃v1,WSt W0 wr wb (acc++qPre (strL s) k) v1)∧KeepJ w wr) (fun u _=>s.size-(intOf u).toNat)
 case atStart=>exact⟨0,Nat.zero_le _,rfl,HW1.out,HK1.out⟩
 case round=>
  obtain⟨k,hk,rfl,⟨v1,hI⟩,hKJ⟩:=hrel
  obtain⟨AC,hAC⟩: ∃x,x=acc++qPre (strL s) k:=⟨_,rfl⟩
  rw[←hAC]at hI
  have HAC:=Lib.hid hAC
  have HI:=Lib.hid hI
  have HKJ:=Lib.hid hKJ
  have HOW:=Lib.hid hI.own
  have p0:wr.cell? ⟨wb,0,none⟩=some v1:=hI.blk.cell 0
  have hltw:=hI.blk.lt
  have hq6:=zmy (strL s) k
  have hACl:AC.length=acc.length+(qPre (strL s) k).length:=by rw[hAC,List.length_append]
  obtain⟨n,hn⟩: ∃n,n=AC.length:=⟨_,rfl⟩
  rw[←hn]at HOW hACl
  have HN:=Lib.hid hn
  have hn2:n≤110000000000000:=by omega
  have HFU:=Lib.hid (full_any W0 wr wb AC v1 hI)
  have HPE:=Lib.hid (zdn W0 wr wb AC v1 ⟨#[34]⟩ hI (by rw[←hn];show n+1≤_;omega))
  clear hI hKJ hAC hn hACl hq6
  by_cases hlt:k<s.size
  ·have hkI:(k:Int)<(s.size:Int):=by omega
   have hk0:(0:Int)≤(k:Int):=by omega
   by_cases hfull:4096<AC.length
   ·have hfd:decide (4096<AC.length)=true:=decide_eq_true hfull
    rw[hfd]at HFU
    go_wp2_with(first|(go_at_call 114;(with_reducible refine HFU.out.mono ?_);rintro e w' ⟨rfl,rfl⟩)|(go_at_call 146;(with_reducible refine HPE.out.mono ?_);rintro e w' ⟨rfl,hw,hk⟩;have HF:=Lib.hid (And.intro hw hk);clear hw hk))
    go_end0
    refine⟨AC++strL ⟨#[34]⟩,.inr ?_,rfl,HF.out.1,HKJ.out.trans HF.out.2⟩
    have hm:=qPre_mono (strL s) (Nat.le_of_lt hlt)
    have hac:=congrArg List.length HAC.out
    rw[List.length_append]at hac
    have h34:(strL (⟨#[34]⟩:ByteArray)).length=1:=by rw[zaQ];rfl
    have hql:(zar (strL s)).length=(qPre (strL s) s.size).length+1:=by rw[zar,HLEN.out,List.length_append];rfl
    rw[List.length_append,h34,hql]
    omega
   ·have hfd:decide (4096<AC.length)=false:=decide_eq_false hfull
    rw[hfd]at HFU
    have HG:=Lib.hid (zbp s k hlt)
    obtain⟨c,hc⟩: ∃c:Int,c=(s[k].toNat:Int):=⟨_,rfl⟩
    have hcb:0≤c∧c≤255:=by rw[hc];have:=(s[k]).toNat_lt;omega
    have HNX:Hid (acc++qPre (strL s) (k+1)=AC++qOne c):=Lib.hid (by rw[qPre,HG.out,←hc,HAC.out,List.append_assoc])
    obtain⟨c0,c1⟩:=hcb
    have HBY:=Lib.hid (qOne_bytes c0 c1)
    clear hfull
    by_cases h32:c<32
    ·have HE:Hid (qOne c=[92,117,48,48,hexS (c/16),hexS (c%16)]):=Lib.hid (by unfold qOne;rw[if_pos h32])
     have hc2:(s[k].toNat:Int)=c:=hc.symm
     have hq0:0≤c/16:=by omega
     have hq1:c/16<16:=by omega
     have hr0:0≤c%16:=by omega
     have hr1:c%16<16:=by omega
     have hwq:IntKind.u8.wrap (c/16)=c/16:=by rw[IntKind.wrap_u8];omega
     have hwr:IntKind.u8.wrap (c%16)=c%16:=by rw[IntKind.wrap_u8];omega
     have hp1:Hid ((c/16).toNat<((⟨#[48,49,50,51,52,53,54,55,56,57,97,98,99,100,101,102]⟩:ByteArray)).size):=Lib.hid (by show _<16;omega)
     have hp2:Hid ((c%16).toNat<((⟨#[48,49,50,51,52,53,54,55,56,57,97,98,99,100,101,102]⟩:ByteArray)).size):=Lib.hid (by show _<16;omega)
     have HS6:Hid (ints .u8 [92,117,48,48,hexS (c/16),hexS (c%16)]=[.int .u8 92,.int .u8 117,.int .u8 48,.int .u8 48,.int .u8 ((⟨#[48,49,50,51,52,53,54,55,56,57,97,98,99,100,101,102]⟩:ByteArray)[(c/16).toNat]'(hp1.out)).toNat,.int .u8 ((⟨#[48,49,50,51,52,53,54,55,56,57,97,98,99,100,101,102]⟩:ByteArray)[(c%16).toNat]'(hp2.out)).toNat]):=Lib.hid (by rw[←hexS_get _ hq0 hq1,←hexS_get _ hr0 hr1];rfl)
     have p0d:wr.drew.cell? ⟨wb,0,none⟩=some v1:=p0
     clear hc
     go_wp2_with(go_at_call 114;(with_reducible refine HFU.out.mono ?_);rintro e w' ⟨rfl,rfl⟩)
     have HGN:Hid (wr.grownBy ((wr.drew).alloc (.cells #[.int .u8 92,.int .u8 117,.int .u8 48,.int .u8 48,.int .u8 ((⟨#[48,49,50,51,52,53,54,55,56,57,97,98,99,100,101,102]⟩:ByteArray)[(c/16).toNat]'(hp1.out)).toNat,.int .u8 ((⟨#[48,49,50,51,52,53,54,55,56,57,97,98,99,100,101,102]⟩:ByteArray)[(c%16).toNat]'(hp2.out)).toNat] 5)) none):=Lib.hid ((zaJ (zaY wr none)).trans (World.grownBy_alloc _ _ none))
     have p1d:((wr.drew).alloc (.cells #[.int .u8 92,.int .u8 117,.int .u8 48,.int .u8 48,.int .u8 ((⟨#[48,49,50,51,52,53,54,55,56,57,97,98,99,100,101,102]⟩:ByteArray)[(c/16).toNat]'(hp1.out)).toNat,.int .u8 ((⟨#[48,49,50,51,52,53,54,55,56,57,97,98,99,100,101,102]⟩:ByteArray)[(c%16).toNat]'(hp2.out)).toNat] 5)).cell? ⟨wb,0,none⟩=some v1:=zbw p0 HGN.out
     have h15:bits .and .u8 c 15=c%16:=and15 c c0 h32
     go_region_law(first
      |(refine step_append_lies _ (by rfl) _ _ _ (by rfl) (wb+1) 5 i0 (.int .u8 0) 1 1 Tryz.underlying46 hi hz0 hz1 hz2 rfl (by omega) v1 n (ints .u8 AC) (by rfl) (HOW.out.kept HGN.out (Classical.em _)) ⟨wr.heap.size,0,none⟩ 6 6 [.int .u8 92,.int .u8 117,.int .u8 48,.int .u8 48,.int .u8 ((⟨#[48,49,50,51,52,53,54,55,56,57,97,98,99,100,101,102]⟩:ByteArray)[(c/16).toNat]'(hp1.out)).toNat,.int .u8 ((⟨#[48,49,50,51,52,53,54,55,56,57,97,98,99,100,101,102]⟩:ByteArray)[(c%16).toNat]'(hp2.out)).toNat] (by rfl) (by rfl) (World.news_of_block (cs:= #[.int .u8 92,.int .u8 117,.int .u8 48,.int .u8 48,.int .u8 ((⟨#[48,49,50,51,52,53,54,55,56,57,97,98,99,100,101,102]⟩:ByteArray)[(c/16).toNat]'(hp1.out)).toNat,.int .u8 ((⟨#[48,49,50,51,52,53,54,55,56,57,97,98,99,100,101,102]⟩:ByteArray)[(c%16).toNat]'(hp2.out)).toNat]) (t:=5) (fr:=(0,0)) (heap_alloc_new wr.drew _)) (by simp[Value.oneCell']) (by omega) (by unfold maxLen;omega) (by omega) (by simp;omega) (wr.heap.size+1) (by simp) ?_
        intro gg cap w2 hown' hgrow hat hlt2
        have hb2:Blk w2 wb 172 [v1]:=(HI.out.blk.grownN HGN.out).grown hgrow (fun e=>by have:=(HI.out.own.lt _ e.symm).1;omega)
        have d2:=hb2.cell 0
        have f2:=hb2.frozen 0
        clear hb2
        try go_frame))
     all_goals
      have hown2:w2.ownsRow (wb+1) 5 1 (.slice (some ⟨gg,0,none⟩) (n+6) cap) (AC.length+([92,117,48,48,hexS (c/16),hexS (c%16)]:List Int).length) (ints .u8 AC++ints .u8 [92,117,48,48,hexS (c/16),hexS (c%16)]):=by rw[←HN.out,HS6.out];exact hown'
      have hM:=(HI.out.moved HGN.out).more hgrow hown2 (by have:=HBY.out;rwa [HE.out]at this)
      have HM:=Lib.hid (And.intro hM.1 ((KeepJ.grownN HGN.out).trans hM.2))
      clear hown' hgrow hat hlt2 hown2 hM d2 f2 p0 p0d p1d
      go_wp2
      go_roundw
      case rel=>exact⟨k+1,by omega,by go_num,⟨_,by rw[HNX.out,HE.out];exact HM.out.1⟩,HKJ.out.trans HM.out.2⟩
      case measure=>simp[intOf];omega
    ·by_cases hq:c=34∨c=92
     ·have HE:Hid (qOne c=[92,c]):=Lib.hid (by unfold qOne;rw[if_neg h32,if_pos hq])
      have hnl: ¬(s[k].toNat:Int)<32:=by rw[←hc];exact h32
      have HCC:=Lib.hid hc
      rw[hc]at hq
      have hby:Bytes [(s[k].toNat:Int)]:= .of_mem fun y hy=>by rw[List.mem_singleton.1 hy,←hc];exact⟨c0,c1⟩
      have HBB:=Lib.hid hby
      have key:((s[k].toNat:Int)==34)=true∨((s[k].toNat:Int)==34)=false∧((s[k].toNat:Int)==92)=true:=by
       rcases hq with hq|hq
       ·exact .inl (by rw[beq_iff_eq];exact hq)
       ·exact .inr ⟨by rw[hq];rfl,by rw[beq_iff_eq];exact hq⟩
      clear hq hc h32 c0 c1 hby
      rcases key with n1|⟨n1,n2⟩
      ·skip
       go_wp2_with(first|(go_at_call 114;(with_reducible refine HFU.out.mono ?_);rintro e w' ⟨rfl,rfl⟩)|(at_builtin;refine wpList_append_own _ rfl _ _ 46 rfl (wb+1) 5 i0 (.int .u8 0) 1 1 Tryz.underlying46 hi hz0 hz1 hz2 rfl (by decide) v1 n _ rfl (HOW.out.alloc _) ⟨wr.heap.size,0,none⟩ 1 1 [.int .u8 92] rfl rfl ?xa1 ?xa2 ?xa3 ?xa4 ?xa5 ?_))
       case xa1=>exact cell_one_new _ _ _
       case xa2=>first|rfl|(intro u hu;rw[List.mem_singleton.1 hu];rfl)
       case xa3=>unfold maxLen;omega
       case xa4=>omega
       case xa5=>first|omega|(simp;omega)
       intro v2 w2 hown' hgrow _
       have hgA:=World.grownBy_alloc wr (.cells #[.int .u8 92] 5) none
       have hown2:w2.ownsRow (wb+1) 5 1 v2 (AC.length+([92]:List Int).length) (ints .u8 AC++ints .u8 [92]):=by rw[←HN.out];exact hown'
       have hM:=(HI.out.moved hgA).more hgrow hown2 (.of_mem (by decide))
       have hb2:Blk w2 wb 172 [v1]:=(HI.out.moved hgA).blk.grown hgrow (fun e=>by have:=(HI.out.own.lt _ e.symm).1;omega)
       have HM1:=Lib.hid (And.intro hM.1 ((KeepJ.grownN hgA).trans hM.2))
       have d0xa:=hb2.cell 0
       have f0xa:=hb2.frozen 0
       obtain⟨Axa,cxa,hv2⟩:=zdW hown2
       rw[hv2]at HM1⊢
       clear hown' hgrow hgA hown2 hM hb2 hv2
       clear p0
       go_upto_region 10 with fail
       clear d0xa f0xa
       obtain⟨vz,hvz⟩: ∃z,z=Value.slice Axa (AC.length+([92]:List Int).length) cxa:=⟨_,rfl⟩
       have hvz':vz=Value.slice Axa (AC.length+1) cxa:=by rw[hvz];rfl
       rw[←hvz]at HM1
       rw[←hvz']
       obtain⟨wz,hwz⟩: ∃z,z=w2.setCell ⟨wb,0,none⟩ vz:=⟨_,rfl⟩
       rw[←hwz]at HM1⊢
       obtain⟨AZ,hAZ⟩: ∃z,z=AC++[92]:=⟨_,rfl⟩
       rw[←hAZ]at HM1
       have HIZ:=Lib.hid HM1.out.1
       have HAZ:=Lib.hid hAZ
       obtain⟨nz,hnz⟩: ∃z,z=AZ.length:=⟨_,rfl⟩
       have hnzn:nz=n+1:=by rw[hnz,hAZ,List.length_append,←HN.out];rfl
       have HNZ:=Lib.hid hnz
       have HOWZ:Hid (wz.ownsRow (wb+1) 5 1 vz nz (ints .u8 AZ)):=Lib.hid (by rw[hnz];exact HIZ.out.own)
       have hltz:=HIZ.out.blk.lt
       have pz0:wz.cell? ⟨wb,0,none⟩=some vz:=HIZ.out.blk.cell 0
       have hnz2:nz≤110000000000001:=by omega
       clear hwz hAZ hnz hnzn hvz hvz'
       go_wp2_with(first|(go_at_call 114;(with_reducible refine HFU.out.mono ?_);rintro e w' ⟨rfl,rfl⟩)|(at_builtin;refine wpList_append_own _ rfl _ _ 46 rfl (wb+1) 5 i0 (.int .u8 0) 1 1 Tryz.underlying46 hi hz0 hz1 hz2 rfl (by decide) vz nz _ rfl (HOWZ.out.alloc _) ⟨wz.heap.size,0,none⟩ 1 1 [.int .u8 (s[k].toNat:Int)] rfl rfl ?xb1 ?xb2 ?xb3 ?xb4 ?xb5 ?_))
       case xb1=>exact cell_one_new _ _ _
       case xb2=>first|rfl|(intro u hu;rw[List.mem_singleton.1 hu];rfl)
       case xb3=>unfold maxLen;omega
       case xb4=>omega
       case xb5=>first|omega|(simp;omega)
       intro v3 w3 hown' hgrow _
       have hgA:=World.grownBy_alloc wz (.cells #[.int .u8 (s[k].toNat:Int)] 5) none
       have hown2:w3.ownsRow (wb+1) 5 1 v3 (AZ.length+([(s[k].toNat:Int)]:List Int).length) (ints .u8 AZ++ints .u8 [(s[k].toNat:Int)]):=by rw[←HNZ.out];exact hown'
       have hM:=(HIZ.out.moved hgA).more hgrow hown2 (HBB.out)
       have hb2:Blk w3 wb 172 [vz]:=(HIZ.out.moved hgA).blk.grown hgrow (fun e=>by have:=(HIZ.out.own.lt _ e.symm).1;omega)
       have HM2:=Lib.hid (And.intro hM.1 ((KeepJ.grownN hgA).trans hM.2))
       have d0xb:=hb2.cell 0
       have f0xb:=hb2.frozen 0
       obtain⟨Axb,cxb,hv2⟩:=zdW hown2
       rw[hv2]at HM2⊢
       clear hown' hgrow hgA hown2 hM hb2 hv2
       clear pz0
       go_wp2
       go_roundw
       case rel=>exact⟨k+1,by omega,by go_num,⟨_,by rw[HNX.out,HE.out,HCC.out,show AC++[92,(s[k].toNat:Int)]=(AC++[92])++[(s[k].toNat:Int)]by simp,←HAZ.out];exact HM2.out.1⟩,(HKJ.out.trans HM1.out.2).trans HM2.out.2⟩
       case measure=>simp[intOf];omega
      ·skip
       go_wp2_with(first|(go_at_call 114;(with_reducible refine HFU.out.mono ?_);rintro e w' ⟨rfl,rfl⟩)|(at_builtin;refine wpList_append_own _ rfl _ _ 46 rfl (wb+1) 5 i0 (.int .u8 0) 1 1 Tryz.underlying46 hi hz0 hz1 hz2 rfl (by decide) v1 n _ rfl (HOW.out.alloc _) ⟨wr.heap.size,0,none⟩ 1 1 [.int .u8 92] rfl rfl ?ya1 ?ya2 ?ya3 ?ya4 ?ya5 ?_))
       case ya1=>exact cell_one_new _ _ _
       case ya2=>first|rfl|(intro u hu;rw[List.mem_singleton.1 hu];rfl)
       case ya3=>unfold maxLen;omega
       case ya4=>omega
       case ya5=>first|omega|(simp;omega)
       intro v2 w2 hown' hgrow _
       have hgA:=World.grownBy_alloc wr (.cells #[.int .u8 92] 5) none
       have hown2:w2.ownsRow (wb+1) 5 1 v2 (AC.length+([92]:List Int).length) (ints .u8 AC++ints .u8 [92]):=by rw[←HN.out];exact hown'
       have hM:=(HI.out.moved hgA).more hgrow hown2 (.of_mem (by decide))
       have hb2:Blk w2 wb 172 [v1]:=(HI.out.moved hgA).blk.grown hgrow (fun e=>by have:=(HI.out.own.lt _ e.symm).1;omega)
       have HM1:=Lib.hid (And.intro hM.1 ((KeepJ.grownN hgA).trans hM.2))
       have d0ya:=hb2.cell 0
       have f0ya:=hb2.frozen 0
       obtain⟨Aya,cya,hv2⟩:=zdW hown2
       rw[hv2]at HM1⊢
       clear hown' hgrow hgA hown2 hM hb2 hv2
       clear p0
       go_upto_region 10 with fail
       clear d0ya f0ya
       obtain⟨vz,hvz⟩: ∃z,z=Value.slice Aya (AC.length+([92]:List Int).length) cya:=⟨_,rfl⟩
       have hvz':vz=Value.slice Aya (AC.length+1) cya:=by rw[hvz];rfl
       rw[←hvz]at HM1
       rw[←hvz']
       obtain⟨wz,hwz⟩: ∃z,z=w2.setCell ⟨wb,0,none⟩ vz:=⟨_,rfl⟩
       rw[←hwz]at HM1⊢
       obtain⟨AZ,hAZ⟩: ∃z,z=AC++[92]:=⟨_,rfl⟩
       rw[←hAZ]at HM1
       have HIZ:=Lib.hid HM1.out.1
       have HAZ:=Lib.hid hAZ
       obtain⟨nz,hnz⟩: ∃z,z=AZ.length:=⟨_,rfl⟩
       have hnzn:nz=n+1:=by rw[hnz,hAZ,List.length_append,←HN.out];rfl
       have HNZ:=Lib.hid hnz
       have HOWZ:Hid (wz.ownsRow (wb+1) 5 1 vz nz (ints .u8 AZ)):=Lib.hid (by rw[hnz];exact HIZ.out.own)
       have hltz:=HIZ.out.blk.lt
       have pz0:wz.cell? ⟨wb,0,none⟩=some vz:=HIZ.out.blk.cell 0
       have hnz2:nz≤110000000000001:=by omega
       clear hwz hAZ hnz hnzn hvz hvz'
       go_wp2_with(first|(go_at_call 114;(with_reducible refine HFU.out.mono ?_);rintro e w' ⟨rfl,rfl⟩)|(at_builtin;refine wpList_append_own _ rfl _ _ 46 rfl (wb+1) 5 i0 (.int .u8 0) 1 1 Tryz.underlying46 hi hz0 hz1 hz2 rfl (by decide) vz nz _ rfl (HOWZ.out.alloc _) ⟨wz.heap.size,0,none⟩ 1 1 [.int .u8 (s[k].toNat:Int)] rfl rfl ?yb1 ?yb2 ?yb3 ?yb4 ?yb5 ?_))
       case yb1=>exact cell_one_new _ _ _
       case yb2=>first|rfl|(intro u hu;rw[List.mem_singleton.1 hu];rfl)
       case yb3=>unfold maxLen;omega
       case yb4=>omega
       case yb5=>first|omega|(simp;omega)
       intro v3 w3 hown' hgrow _
       have hgA:=World.grownBy_alloc wz (.cells #[.int .u8 (s[k].toNat:Int)] 5) none
       have hown2:w3.ownsRow (wb+1) 5 1 v3 (AZ.length+([(s[k].toNat:Int)]:List Int).length) (ints .u8 AZ++ints .u8 [(s[k].toNat:Int)]):=by rw[←HNZ.out];exact hown'
       have hM:=(HIZ.out.moved hgA).more hgrow hown2 (HBB.out)
       have hb2:Blk w3 wb 172 [vz]:=(HIZ.out.moved hgA).blk.grown hgrow (fun e=>by have:=(HIZ.out.own.lt _ e.symm).1;omega)
       have HM2:=Lib.hid (And.intro hM.1 ((KeepJ.grownN hgA).trans hM.2))
       have d0yb:=hb2.cell 0
       have f0yb:=hb2.frozen 0
       obtain⟨Ayb,cyb,hv2⟩:=zdW hown2
       rw[hv2]at HM2⊢
       clear hown' hgrow hgA hown2 hM hb2 hv2
       clear pz0
       go_wp2
       go_roundw
       case rel=>exact⟨k+1,by omega,by go_num,⟨_,by rw[HNX.out,HE.out,HCC.out,show AC++[92,(s[k].toNat:Int)]=(AC++[92])++[(s[k].toNat:Int)]by simp,←HAZ.out];exact HM2.out.1⟩,(HKJ.out.trans HM1.out.2).trans HM2.out.2⟩
       case measure=>simp[intOf];omega
     ·have n1:(c==34)=false:=by rw[beq_eq_false_iff_ne];omega
      have n2:(c==92)=false:=by rw[beq_eq_false_iff_ne];omega
      have HE:Hid (qOne c=[c]):=Lib.hid (by unfold qOne;rw[if_neg h32,if_neg hq])
      have hnl: ¬(s[k].toNat:Int)<32:=by rw[←hc];exact h32
      have HCC:=Lib.hid hc
      rw[hc]at n1 n2
      have hby:Bytes [(s[k].toNat:Int)]:=by have:=HBY.out;rw[HE.out,hc]at this;exact this
      have HBB:=Lib.hid hby
      clear hq hc h32 c0 c1 hby
      go_wp2_with(first|(go_at_call 114;(with_reducible refine HFU.out.mono ?_);rintro e w' ⟨rfl,rfl⟩)|(at_builtin;refine wpList_append_own _ rfl _ _ 46 rfl (wb+1) 5 i0 (.int .u8 0) 1 1 Tryz.underlying46 hi hz0 hz1 hz2 rfl (by decide) v1 n _ rfl (HOW.out.alloc _) ⟨wr.heap.size,0,none⟩ 1 1 [.int .u8 (s[k].toNat:Int)] rfl rfl ?z1 ?z2 ?z3 ?z4 ?z5 ?_))
      case z1=>exact cell_one_new _ _ _
      case z2=>first|rfl|(intro u hu;rw[List.mem_singleton.1 hu];rfl)
      case z3=>unfold maxLen;omega
      case z4=>omega
      case z5=>first|omega|(simp;omega)
      intro v2 w2 hown' hgrow _
      have hgA:=World.grownBy_alloc wr (.cells #[.int .u8 (s[k].toNat:Int)] 5) none
      have hown2:w2.ownsRow (wb+1) 5 1 v2 (AC.length+([(s[k].toNat:Int)]:List Int).length) (ints .u8 AC++ints .u8 [(s[k].toNat:Int)]):=by rw[←HN.out];exact hown'
      have hM:=(HI.out.moved hgA).more hgrow hown2 (HBB.out)
      have hb2:Blk w2 wb 172 [v1]:=(HI.out.moved hgA).blk.grown hgrow (fun e=>by have:=(HI.out.own.lt _ e.symm).1;omega)
      have HM:=Lib.hid (And.intro hM.1 ((KeepJ.grownN hgA).trans hM.2))
      have d0:=hb2.cell 0
      have f0:=hb2.frozen 0
      obtain⟨A2,c2,hv2⟩:=zdW hown2
      rw[hv2]at HM⊢
      clear hown' hgrow hgA hown2 hM hb2 hv2 p0
      go_wp2
      go_roundw
      case rel=>exact⟨k+1,by omega,by go_num,⟨_,by rw[HNX.out,HE.out,HCC.out];exact HM.out.1⟩,HKJ.out.trans HM.out.2⟩
      case measure=>simp[intOf];omega
  ·obtain rfl:k=s.size:=by omega
   have hkI: ¬(s.size:Int)<(s.size:Int):=by omega
   go_wp2_with(first|(go_at_call 114;(with_reducible refine HFU.out.mono ?_);rintro e w' ⟨rfl,rfl⟩)|(go_at_call 146;(with_reducible refine HPE.out.mono ?_);rintro e w' ⟨rfl,hw,hk⟩;have HF:=Lib.hid (And.intro hw hk);clear hw hk))
   go_end0
   refine⟨AC++strL ⟨#[34]⟩,.inl ?_,rfl,HF.out.1,HKJ.out.trans HF.out.2⟩
   rw[HAC.out,zar,HLEN.out,List.append_assoc]
   rfl
end Go.Proofs.YtceddodfddlncaaGreatDoor
namespace Go.Proofs.YtceddodfddlncaaGreatDoor
open Go
inductive Rt:J→Prop
 |mk (kind n:Int) (s:ByteArray) (l:List J) (k:List ByteArray):zch kind n s l.length k.length=true→(kind=5→k.length=l.length∧rnL none k=true)→(kind=4∨kind=5∨zdz kind n s=true)→(∀x∈l,Rt x)→Rt (.mk kind n s l k)
mutual
def szJ:J→Nat
 | .mk _ _ _ l _=>1+szLs l
def szLs:List J→Nat
 |[]=>0
 |x::r=>szJ x+szLs r
end
mutual
def dpJ:J→Nat
 | .mk kind _ _ l _=>if kind=4∨kind=5 then 1+dpLs l else 0
def dpLs:List J→Nat
 |[]=>0
 |x::r=>max (dpJ x) (dpLs r)
end
theorem szLs_app: ∀(a b:List J),szLs (a++b)=szLs a+szLs b
 |[],b=>by rw[List.nil_append,szLs,Nat.zero_add]
 |x::a,b=>by rw[List.cons_append,szLs,szLs,szLs_app a b,Nat.add_assoc]
theorem dpLs_le {d:Nat}: ∀(l:List J),dpLs l≤d↔ ∀x∈l,dpJ x≤d
 |[]=>by rw[dpLs];simp
 |x::r=>by
  rw[dpLs,Nat.max_le,dpLs_le r]
  simp
theorem szLs_perm {a b:List J} (h:a.Perm b):szLs a=szLs b:=by
 induction h with
 |nil=>rfl
 |cons x _ ih=>rw[szLs,szLs,ih]
 |swap x y l=>rw[szLs,szLs,szLs,szLs];omega
 |trans _ _ h1 h2=>rw[h1,h2]
theorem szJ_pos (j:J):1≤szJ j:=by cases j;rw[szJ];omega
theorem zkZ {kind n:Int} {s:ByteArray} (h:zdz kind n s=true):kind=0∨kind=1∨kind=2∨kind=3:=by
 unfold zdz at h
 by_cases h0:kind=0
 ·exact .inl h0
 by_cases h1:kind=1
 ·exact .inr (.inl h1)
 by_cases h2:kind=2
 ·exact .inr (.inr (.inl h2))
 by_cases h3:kind=3
 ·exact .inr (.inr (.inr h3))
 rw[if_neg h0,if_neg h1,if_neg h2,if_neg h3]at h
 cases h
theorem clean_l {kind n:Int} {s:ByteArray} {p q:Nat} (h:zch kind n s p q=true) (h4:kind≠4) (h5:kind≠5):p=0∧q=0:=by
 rw[zaj]at h
 simp only[Bool.and_eq_true,Bool.or_eq_true,decide_eq_true_eq]at h
 omega
theorem clean_q {kind n:Int} {s:ByteArray} {p q:Nat} (h:zch kind n s p q=true) (h5:kind≠5):q=0:=by
 rw[zaj]at h
 simp only[Bool.and_eq_true,Bool.or_eq_true,decide_eq_true_eq]at h
 omega
theorem zkh {kind n:Int} {s:ByteArray} {p q:Nat} (h:zch kind n s p q=true) (h3:kind≠3):s=⟨#[]⟩:=by
 rw[zaj]at h
 simp only[Bool.and_eq_true,Bool.or_eq_true,decide_eq_true_eq]at h
 rcases h.1.1.2 with h|h
 ·exact absurd h h3
 ·exact h
theorem znu {kind n:Int} {s:ByteArray} {p q:Nat} (h:zch kind n s p q=true) (h1:kind≠1) (h2:kind≠2):n=0:=by
 rw[zaj]at h
 simp only[Bool.and_eq_true,Bool.or_eq_true,decide_eq_true_eq]at h
 omega
theorem rgt_iff (j:J): ∀(d left:Int),1≤d→d≤9→0≤left→((rgt j d left).1=true↔Rt j∧(szJ j:Int)≤left∧d-1+(dpJ j:Int)≤8)∧((rgt j d left).1=true→(rgt j d left).2=left-(szJ j:Int)):=by
 induction j using J.ind with
 |h kind n s l k ih=>
  intro d left d1 d9 h0
  have key: ∀(l:List J),(∀x∈l,∀(d left:Int),1≤d→d≤9→0≤left→((rgt x d left).1=true↔Rt x∧(szJ x:Int)≤left∧d-1+(dpJ x:Int)≤8)∧((rgt x d left).1=true→(rgt x d left).2=left-(szJ x:Int)))→
    ∀(d left:Int),1≤d→d≤9→0≤left→((zcf l d left).1=true↔(∀x∈l,Rt x)∧(szLs l:Int)≤left∧d-1+(dpLs l:Int)≤8)∧((zcf l d left).1=true→(zcf l d left).2=left-(szLs l:Int)):=fun l=>by
   induction l with
   |nil=>
    intro _ d left d1 d9 h0
    rw[zcf,szLs,dpLs]
    refine⟨⟨fun _=>⟨fun x hx=>(by cases hx),by simpa using h0,by simp;omega⟩,fun _=>rfl⟩,fun _=>by simp⟩
   |cons x r ihr=>
    intro ih d left d1 d9 h0
    obtain⟨i1,i2⟩:=ih x (by simp) d left d1 d9 h0
    rw[zcf,szLs,dpLs]
    cases hb:(rgt x d left).1 with
    |false=>
     rw[if_neg (by simp)]
     rw[hb]at i1
     refine⟨⟨fun h=>(by cases h),fun⟨h1,h2,h3⟩=> ?_⟩,fun h=>(by cases h)⟩
     exact i1.2 ⟨h1 x (by simp),by omega,by omega⟩
    |true=>
     rw[if_pos rfl]
     obtain⟨e1,e2,e3⟩:=i1.1 hb
     have e4:=i2 hb
     rw[e4]
     obtain⟨r1,r2⟩:=ihr (fun y hy=>ih y (List.mem_cons_of_mem _ hy)) d (left-szJ x) d1 d9 (by omega)
     refine⟨⟨fun h=> ?_,fun⟨h1,h2,h3⟩=> ?_⟩,fun h=>by rw[r2 h];omega⟩
     ·obtain⟨g1,g2,g3⟩:=r1.1 h
      refine⟨fun y hy=> ?_,by omega,by omega⟩
      rcases List.mem_cons.1 hy with rfl|hy
      ·exact e1
      ·exact g1 y hy
     ·exact r1.2 ⟨fun y hy=>h1 y (List.mem_cons_of_mem _ hy),by omega,by omega⟩
  rw[rgt,szJ,dpJ]
  by_cases c1:left-1<0∨zch kind n s l.length k.length=false
  ·rw[if_pos c1]
   refine⟨⟨fun h=>(by cases h),fun⟨h1,h2,h3⟩=> ?_⟩,fun h=>by cases h⟩
   rcases c1 with c1|c1
   ·omega
   ·cases h1 with|mk _ _ _ _ _ a1 a2 a3 a4=>rw[c1]at a1;cases a1
  rw[if_neg c1]
  have hcl:zch kind n s l.length k.length=true:=by
   cases h:zch kind n s l.length k.length with
   |true=>rfl
   |false=>exact absurd (.inr h) c1
  by_cases c2:kind=5∧(k.length≠l.length∨rnL none k=false)
  ·rw[if_pos c2]
   refine⟨⟨fun h=>(by cases h),fun⟨h1,h2,h3⟩=> ?_⟩,fun h=>by cases h⟩
   cases h1 with
   |mk _ _ _ _ _ a1 a2 a3 a4=>
    obtain⟨b1,b2⟩:=a2 c2.1
    rcases c2.2 with c|c
    ·exact absurd b1 c
    ·rw[b2]at c;cases c
  rw[if_neg c2]
  have h5:kind=5→k.length=l.length∧rnL none k=true:=fun h=>by
   refine⟨Decidable.byContradiction fun hn=>c2 ⟨h,.inl hn⟩,?_⟩
   cases hr:rnL none k with
   |true=>rfl
   |false=>exact absurd ⟨h,.inr hr⟩ c2
  by_cases c3:kind=4∨kind=5
  ·rw[if_pos c3,if_pos c3]
   by_cases c4:d≤8
   ·rw[if_pos c4]
    obtain⟨r1,r2⟩:=key l ih (d+1) (left-1) (by omega) (by omega) (by omega)
    refine⟨⟨fun h=> ?_,fun⟨h1,h2,h3⟩=> ?_⟩,fun h=>by rw[r2 h];omega⟩
    ·obtain⟨g1,g2,g3⟩:=r1.1 h
     exact⟨.mk kind n s l k hcl h5 (c3.imp_right .inl) g1,by omega,by omega⟩
    ·cases h1 with|mk _ _ _ _ _ a1 a2 a3 a4=>exact r1.2 ⟨a4,by omega,by omega⟩
   ·rw[if_neg c4]
    refine⟨⟨fun h=>(by cases h),fun⟨h1,h2,h3⟩=> ?_⟩,fun h=>by cases h⟩
    omega
  ·rw[if_neg c3,if_neg c3]
   have hlq:=clean_l hcl (fun h=>c3 (.inl h)) (fun h=>c3 (.inr h))
   have hl0:l=[]:=List.eq_nil_of_length_eq_zero hlq.1
   subst hl0
   rw[szLs]
   refine⟨⟨fun h=>⟨.mk kind n s [] k hcl h5 (.inr (.inr h)) (fun x hx=>(by cases hx)),by omega,by omega⟩,fun⟨h1,h2,h3⟩=> ?_⟩,fun _=>by simp⟩
   cases h1 with
   |mk _ _ _ _ _ a1 a2 a3 a4=>
    rcases a3 with a|a|a
    ·exact absurd (.inl a) c3
    ·exact absurd (.inr a) c3
    ·exact a
theorem zjl (j:J):(rgt j 1 256).1=true↔Rt j∧szJ j≤256∧dpJ j≤8:=by
 rw[(rgt_iff j 1 256 (by decide) (by decide) (by decide)).1]
 constructor
 ·rintro⟨a,b,c⟩;exact⟨a,by omega,by omega⟩
 ·rintro⟨a,b,c⟩;exact⟨a,by omega,by omega⟩
end Go.Proofs.YtceddodfddlncaaGreatDoor
