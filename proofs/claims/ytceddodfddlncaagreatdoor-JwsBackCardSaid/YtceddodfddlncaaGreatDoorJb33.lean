
import Derived.Test.YtceddodfddlncaaGreatDoorJb27
set_option maxRecDepth 100000
set_option maxHeartbeats 16000000
set_option linter.all false
namespace Go.Proofs.YtceddodfddlncaaGreatDoor
open Go Go.RowKit
theorem value_list (s:ByteArray) (rb d:Nat) (hs:s.size≤10000) (hd:d≤8) (i:Nat) (left:Int) (w:World) (hi:i≤s.size) (h0:0≤left) (h1:left≤256) (hr:Rdr w rb s i (256-left)) (hg:GW w rb) (hl:1≤left) (hc:atL (strL s) (zaW (strL s) i)=91) (hm: ∀(i:Nat) (left:Int) (w:World),i<s.size→0≤left→left≤256→Rdr w rb s i (256-left)→GW w rb→atL (strL s) i=91→Calls Tryz.prog 165 #[.pointer (some ⟨rb,0,none⟩),.int .i64 (9-(d:Int))] w (ValPost w rb s (zgo (strL s) d i left))):
  Calls Tryz.prog 128 #[.pointer (some ⟨rb,0,none⟩),.int .i64 (9-(d:Int))] w (ValPost w rb s (valueL (strL s) d (zaW (strL s) i) left)):=by
 have HLEN:=Lib.hid (zaQ s)
 have HW:=Lib.hid hr
 have HGW:=Lib.hid hg
 have hrlt:=hr.lt
 have HBL:=Lib.hid (fun(W:World) (hr:Rdr W rb s i (256-left))=>zbg rb s i _ W hr hi (by omega))
 have hsk:=zak (l:=strL s) (i:=i) (by rw[HLEN.out];exact hi)
 rw[HLEN.out]at hsk
 obtain⟨k,hk⟩: ∃k,k=zaW (strL s) i:=⟨_,rfl⟩
 rw[←hk]at HBL hsk hc⊢
 have hk2:=hsk.2
 have HAH:=Lib.hid (fun(W:World) (hr:Rdr W rb s k (256-left))=>zbi rb s k _ W hr hk2 (by omega))
 obtain⟨r,hrr⟩: ∃r,r=valueL (strL s) d k left:=⟨_,rfl⟩
 have hval:r=valF (strL s) (zgo (strL s) d) k left:=hrr.trans (zdj (strL s) d k left)
 rw[←hrr]
 clear hr hg hk hsk hrr
 have HV:Hid (r=zgo (strL s) d k (left-1)):=Lib.hid (hval.trans (by unfold valF;rw[if_neg (show ¬ ¬zba (atL (strL s) k)=true by rw[hc];decide),if_neg (show ¬left-1<0 by omega)];rw[if_neg (by omega),if_neg (by omega),if_neg (by omega),if_neg (by omega),if_neg (by omega)]))
 have hlt:k<s.size:=by rw[←HLEN.out];exact zbZ (by omega)
 rw[(zff (by decide)).2 hc]at HAH
 have HIX:=Lib.hid (fun W:World=>zcX 91 W)
 obtain⟨X,hX⟩: ∃X,X=Lib.indexByte [110,116,102,34,91,123,45,48,49,50,51,52,53,54,55,56,57] ((91:Int).toNat.toUInt8):=⟨_,rfl⟩
 rw[←hX]at HIX
 have hX0: ¬X<0:=by rw[hX];decide
 have hmx:decide ((256:Int)<256-left+1)=false:=decide_eq_false (by omega)
 clear hX
 have HWD:=Lib.hid (fun(W:World) (hr:Rdr W rb s k (256-(left-1))) (hg:GW W rb)=>hm k (left-1) W hlt (by omega) (by omega) hr hg hc)
 rw[←HV.out]at HWD
 unfold ValPost at HWD
 clear hval hc hm
 go_enter Tryz.func128,Tryz.ntmps128
 go_wp2_with(first|(refine zaK rfl (some 4) rfl _ rfl _ zgt ?_;intro g w1 hg1 hb1 hgr1;have HB0:=Lib.hid hb1;have HG0:=Lib.hid hgr1;have HR1:=Lib.hid (Blk.grownN HW.out hgr1);have hgn:=Nat.lt_of_lt_of_le hrlt hg1;clear hb1 hgr1;try go_frame)|(go_at_call 129;(with_reducible refine(HBL.out _ HR1.out).mono ?_);rintro e w2 ⟨rfl,hg2,hr2⟩;have HG2:=Lib.hid ((HG0.out.but (some rb)).trans hg2);have HR2:=Lib.hid hr2;have HB2:=Lib.hid (Blk.grown HB0.out hg2 (by intro e;injection e with e;omega));obtain⟨⟨c0,c1,c2⟩,f0,f1,f2⟩:=Rdr.cells hr2;clear hg2 hr2)|(go_at_call 160;(with_reducible refine(HAH.out _ HR2.out).mono ?_);rintro e w' ⟨rfl,q,rfl⟩)|(go_at_call 161;(with_reducible refine(HIX.out _).mono ?_);rintro e w' ⟨rfl,rfl⟩))
 refine(HWD.out _ (zdx (Rdr.counts (HR2.out.drewN q) _) (by omega)) (HGW.out.grown (HG2.out.trans (zag w2 q rb 2 (.int .i64 (256-left+1)))))).mono ?_
 rintro e w5 (⟨ht,v,q5,rfl,hrep,hq,hsk5,hg5,hr5⟩|⟨ht,rfl,hg5⟩)
 ·have HV2:Hid (r=(r.1,zaW (strL s) q5,r.2.2.1,0)):=Lib.hid (by rw[hsk5,←ht])
  have HREP:=Lib.hid (RepS.keeps (Keeps.refl _ w5) (T:=fun b=>w.heap.size≤b∧b≠g) (fun b (h:_≤b) _=>by
   have hsz:g<(w2.drewN q).heap.size:=HB2.out.lt
   have hsz2:w.heap.size≤w2.heap.size:=HG2.out.size
   have h':w2.heap.size≤b:=by simpa using h
   exact⟨by omega,by have:g<w2.heap.size:=HB2.out.lt;omega⟩) _ _ hrep)
  have HG5:=Lib.hid ((HG2.out.trans (zag w2 q rb 2 (.int .i64 (256-left+1)))).trans hg5)
  have HR5:=Lib.hid hr5
  have hb5:=Blk.grown (Blk.grown HB2.out (zag w2 q rb 2 (.int .i64 (256-left+1))) (by intro e;injection e with e;omega)) hg5 (by intro e;injection e with e;omega)
  obtain⟨vk,A,c9,rfl, -,⟨K9,d9,rfl, -, -⟩, -, -⟩:=HREP.out.open
  clear ht hg5 hr5 hrep hsk5
  obtain⟨b0,b1,b2,b3,b4⟩:w5.cell? ⟨g,0,none⟩=some (.int .i64 0)∧w5.cell? ⟨g,1,none⟩=some (.int .i64 0)∧w5.cell? ⟨g,2,none⟩=some (.string ⟨#[]⟩)∧w5.cell? ⟨g,3,none⟩=some (.slice none 0 0)∧w5.cell? ⟨g,4,none⟩=some (.slice none 0 0):=⟨hb5.cell 0,hb5.cell 1,hb5.cell 2,hb5.cell 3,hb5.cell 4⟩
  obtain⟨z0,z1,z2,z3,z4⟩:w5.frozen? ⟨g,0,none⟩=false∧w5.frozen? ⟨g,1,none⟩=false∧w5.frozen? ⟨g,2,none⟩=false∧w5.frozen? ⟨g,3,none⟩=false∧w5.frozen? ⟨g,4,none⟩=false:=⟨hb5.frozen 0,hb5.frozen 1,hb5.frozen 2,hb5.frozen 3,hb5.frozen 4⟩
  have HF:=Lib.hid (zgi (r:=r) hg1 hrlt HG5.out HR5.out hb5 HREP.out hq (HV2.out.trans (by rw[show 256-(256-r.2.2.1)=r.2.2.1 by omega])))
  clear hb5
  go_wp2
  refine bodyPost_ret (zbW Tryz.results128 _ _ g _ _ _ rfl HF.out.1 Tryz.underlying63 rfl zau) rfl HF.out.2
 ·have HG5:=Lib.hid hg5
  have HT:=Lib.hid ht
  clear ht hg5
  go_wp2
  exact⟨rfl,.inr ⟨HT.out,rfl,(HG2.out.trans (zag w2 q rb 2 (.int .i64 (256-left+1)))).trans HG5.out⟩⟩
theorem value_object (s:ByteArray) (rb d:Nat) (hs:s.size≤10000) (hd:d≤8) (i:Nat) (left:Int) (w:World) (hi:i≤s.size) (h0:0≤left) (h1:left≤256) (hr:Rdr w rb s i (256-left)) (hg:GW w rb) (hl:1≤left) (hc:atL (strL s) (zaW (strL s) i)=123) (hm: ∀(i:Nat) (left:Int) (w:World),i<s.size→0≤left→left≤256→Rdr w rb s i (256-left)→GW w rb→atL (strL s) i=123→Calls Tryz.prog 166 #[.pointer (some ⟨rb,0,none⟩),.int .i64 (9-(d:Int))] w (ValPost w rb s (zgo (strL s) d i left))):
  Calls Tryz.prog 128 #[.pointer (some ⟨rb,0,none⟩),.int .i64 (9-(d:Int))] w (ValPost w rb s (valueL (strL s) d (zaW (strL s) i) left)):=by
 have HLEN:=Lib.hid (zaQ s)
 have HW:=Lib.hid hr
 have HGW:=Lib.hid hg
 have hrlt:=hr.lt
 have HBL:=Lib.hid (fun(W:World) (hr:Rdr W rb s i (256-left))=>zbg rb s i _ W hr hi (by omega))
 have hsk:=zak (l:=strL s) (i:=i) (by rw[HLEN.out];exact hi)
 rw[HLEN.out]at hsk
 obtain⟨k,hk⟩: ∃k,k=zaW (strL s) i:=⟨_,rfl⟩
 rw[←hk]at HBL hsk hc⊢
 have hk2:=hsk.2
 have HAH:=Lib.hid (fun(W:World) (hr:Rdr W rb s k (256-left))=>zbi rb s k _ W hr hk2 (by omega))
 obtain⟨r,hrr⟩: ∃r,r=valueL (strL s) d k left:=⟨_,rfl⟩
 have hval:r=valF (strL s) (zgo (strL s) d) k left:=hrr.trans (zdj (strL s) d k left)
 rw[←hrr]
 clear hr hg hk hsk hrr
 have HV:Hid (r=zgo (strL s) d k (left-1)):=Lib.hid (hval.trans (by unfold valF;rw[if_neg (show ¬ ¬zba (atL (strL s) k)=true by rw[hc];decide),if_neg (show ¬left-1<0 by omega)];rw[if_neg (by omega),if_neg (by omega),if_neg (by omega),if_neg (by omega),if_neg (by omega)]))
 have hlt:k<s.size:=by rw[←HLEN.out];exact zbZ (by omega)
 rw[(zff (by decide)).2 hc]at HAH
 have HIX:=Lib.hid (fun W:World=>zcX 123 W)
 obtain⟨X,hX⟩: ∃X,X=Lib.indexByte [110,116,102,34,91,123,45,48,49,50,51,52,53,54,55,56,57] ((123:Int).toNat.toUInt8):=⟨_,rfl⟩
 rw[←hX]at HIX
 have hX0: ¬X<0:=by rw[hX];decide
 have hmx:decide ((256:Int)<256-left+1)=false:=decide_eq_false (by omega)
 clear hX
 have HWD:=Lib.hid (fun(W:World) (hr:Rdr W rb s k (256-(left-1))) (hg:GW W rb)=>hm k (left-1) W hlt (by omega) (by omega) hr hg hc)
 rw[←HV.out]at HWD
 unfold ValPost at HWD
 clear hval hc hm
 go_enter Tryz.func128,Tryz.ntmps128
 go_wp2_with(first|(refine zaK rfl (some 4) rfl _ rfl _ zgt ?_;intro g w1 hg1 hb1 hgr1;have HB0:=Lib.hid hb1;have HG0:=Lib.hid hgr1;have HR1:=Lib.hid (Blk.grownN HW.out hgr1);have hgn:=Nat.lt_of_lt_of_le hrlt hg1;clear hb1 hgr1;try go_frame)|(go_at_call 129;(with_reducible refine(HBL.out _ HR1.out).mono ?_);rintro e w2 ⟨rfl,hg2,hr2⟩;have HG2:=Lib.hid ((HG0.out.but (some rb)).trans hg2);have HR2:=Lib.hid hr2;have HB2:=Lib.hid (Blk.grown HB0.out hg2 (by intro e;injection e with e;omega));obtain⟨⟨c0,c1,c2⟩,f0,f1,f2⟩:=Rdr.cells hr2;clear hg2 hr2)|(go_at_call 160;(with_reducible refine(HAH.out _ HR2.out).mono ?_);rintro e w' ⟨rfl,q,rfl⟩)|(go_at_call 161;(with_reducible refine(HIX.out _).mono ?_);rintro e w' ⟨rfl,rfl⟩))
 refine(HWD.out _ (zdx (Rdr.counts (HR2.out.drewN q) _) (by omega)) (HGW.out.grown (HG2.out.trans (zag w2 q rb 2 (.int .i64 (256-left+1)))))).mono ?_
 rintro e w5 (⟨ht,v,q5,rfl,hrep,hq,hsk5,hg5,hr5⟩|⟨ht,rfl,hg5⟩)
 ·have HV2:Hid (r=(r.1,zaW (strL s) q5,r.2.2.1,0)):=Lib.hid (by rw[hsk5,←ht])
  have HREP:=Lib.hid (RepS.keeps (Keeps.refl _ w5) (T:=fun b=>w.heap.size≤b∧b≠g) (fun b (h:_≤b) _=>by
   have hsz:g<(w2.drewN q).heap.size:=HB2.out.lt
   have hsz2:w.heap.size≤w2.heap.size:=HG2.out.size
   have h':w2.heap.size≤b:=by simpa using h
   exact⟨by omega,by have:g<w2.heap.size:=HB2.out.lt;omega⟩) _ _ hrep)
  have HG5:=Lib.hid ((HG2.out.trans (zag w2 q rb 2 (.int .i64 (256-left+1)))).trans hg5)
  have HR5:=Lib.hid hr5
  have hb5:=Blk.grown (Blk.grown HB2.out (zag w2 q rb 2 (.int .i64 (256-left+1))) (by intro e;injection e with e;omega)) hg5 (by intro e;injection e with e;omega)
  obtain⟨vk,A,c9,rfl, -,⟨K9,d9,rfl, -, -⟩, -, -⟩:=HREP.out.open
  clear ht hg5 hr5 hrep hsk5
  obtain⟨b0,b1,b2,b3,b4⟩:w5.cell? ⟨g,0,none⟩=some (.int .i64 0)∧w5.cell? ⟨g,1,none⟩=some (.int .i64 0)∧w5.cell? ⟨g,2,none⟩=some (.string ⟨#[]⟩)∧w5.cell? ⟨g,3,none⟩=some (.slice none 0 0)∧w5.cell? ⟨g,4,none⟩=some (.slice none 0 0):=⟨hb5.cell 0,hb5.cell 1,hb5.cell 2,hb5.cell 3,hb5.cell 4⟩
  obtain⟨z0,z1,z2,z3,z4⟩:w5.frozen? ⟨g,0,none⟩=false∧w5.frozen? ⟨g,1,none⟩=false∧w5.frozen? ⟨g,2,none⟩=false∧w5.frozen? ⟨g,3,none⟩=false∧w5.frozen? ⟨g,4,none⟩=false:=⟨hb5.frozen 0,hb5.frozen 1,hb5.frozen 2,hb5.frozen 3,hb5.frozen 4⟩
  have HF:=Lib.hid (zgi (r:=r) hg1 hrlt HG5.out HR5.out hb5 HREP.out hq (HV2.out.trans (by rw[show 256-(256-r.2.2.1)=r.2.2.1 by omega])))
  clear hb5
  go_wp2
  refine bodyPost_ret (zbW Tryz.results128 _ _ g _ _ _ rfl HF.out.1 Tryz.underlying63 rfl zau) rfl HF.out.2
 ·have HG5:=Lib.hid hg5
  have HT:=Lib.hid ht
  clear ht hg5
  go_wp2
  exact⟨rfl,.inr ⟨HT.out,rfl,(HG2.out.trans (zag w2 q rb 2 (.int .i64 (256-left+1)))).trans HG5.out⟩⟩
def ObjAsk (s:ByteArray) (rb d:Nat):Prop:= ∀(i:Nat) (left:Int) (w:World),i<s.size→0≤left→left≤256→Rdr w rb s i (256-left)→GW w rb→atL (strL s) i=123→
 Calls Tryz.prog 166 #[.pointer (some ⟨rb,0,none⟩),.int .i64 (9-(d:Int))] w (ValPost w rb s (zgo (strL s) d i left))
theorem list_deep (s:ByteArray) (rb:Nat) (i:Nat) (left:Int) (w:World) (hr:Rdr w rb s i (256-left)):
  Calls Tryz.prog 165 #[.pointer (some ⟨rb,0,none⟩),.int .i64 9] w (ValPost w rb s (zeroJ,i,left,51)):=by
 have hLB:=zlw w rb s 9 i _ hr
 have HD:=Lib.hid (fun f=>zlz rb s i _ 9 93 f _ hLB.rdr (by decide) (by decide))
 have HG:=Lib.hid hLB.gr
 have hmf: ∀(fn:Fn) (first cap:Array Value) (w:World),(Instr.makeFunc fn first cap).run Tryz.prog w= .ok (.func fn first cap) w:=fun _ _ _ _=>rfl
 clear hr hLB
 go_enter Tryz.func165,Tryz.ntmps165
 go_wp2_with fail
 refine(HD.out _).mono ?_
 rintro e w2 ⟨rfl,hg⟩
 have HG2:=Lib.hid (HG.out.trans hg)
 clear hg
 go_wp2
 exact⟨rfl,ValPost.bad rfl (by decide) ⟨rfl,HG2.out⟩⟩
theorem value_of (s:ByteArray) (rb d:Nat) (hs:s.size≤10000) (hd:d≤8) (hv: ∀e,d=e+1→zfu s rb e) (ho:ObjAsk s rb d):zfu s rb d:=fun i left w hi h0 h1 hr hg=>by
 by_cases hb:zba (atL (strL s) (zaW (strL s) i))=true
 ·by_cases hl:left=0
  ·exact value_many s rb d hs hd i left w hi h0 h1 hr hg hb hl
  ·have hl1:1≤left:=by omega
   have hcs:=hb
   unfold zba at hcs
   rw[decide_eq_true_eq]at hcs
   by_cases hn:atL (strL s) (zaW (strL s) i)=45∨(48≤atL (strL s) (zaW (strL s) i)∧atL (strL s) (zaW (strL s) i)≤57)
   ·exact value_number s rb d hs hd i left w hi h0 h1 hr hg hl1 hn
   ·rcases hcs with h|h|h|h|h|h|h|h
    ·exact absurd (.inl h) hn
    ·exact absurd (.inr h) hn
    ·exact value_null s rb d hs hd i left w hi h0 h1 hr hg hl1 h
    ·exact value_true s rb d hs hd i left w hi h0 h1 hr hg hl1 h
    ·exact value_false s rb d hs hd i left w hi h0 h1 hr hg hl1 h
    ·exact value_text s rb d hs hd i left w hi h0 h1 hr hg hl1 h
    ·refine value_list s rb d hs hd i left w hi h0 h1 hr hg hl1 h (fun i left w hi h0 h1 hr hg h91=> ?_)
     cases d with
     |zero=>exact list_deep s rb i left w hr
     |succ d=>
      have:=list_any s rb d hs (by omega) (hv d rfl) i left w hi h0 h1 hr hg h91
      rw[show(9:Int)-((d+1:Nat):Int)=8-(d:Int)by omega]
      exact this
    ·exact value_object s rb d hs hd i left w hi h0 h1 hr hg hl1 h ho
 ·exact value_none s rb d hs hd i left w hi h0 h1 hr hg hb
theorem zjV (s:ByteArray) (rb:Nat) (hs:s.size≤10000) (ho: ∀d,d≤8→(∀e,d=e+1→zfu s rb e)→ObjAsk s rb d): ∀d,d≤8→zfu s rb d
 |0,h=>value_of s rb 0 hs h (fun e he=>by cases he) (ho 0 h (fun e he=>by cases he))
 |d+1,h=>value_of s rb (d+1) hs h (fun e he=>by injection he with he;subst he;exact zjV s rb hs ho d (by omega)) (ho (d+1) h (fun e he=>by injection he with he;subst he;exact zjV s rb hs ho d (by omega)))
end Go.Proofs.YtceddodfddlncaaGreatDoor
