
import Derived.Test.YtjfgmgkhinehaaaGreatDoorCq50
set_option maxRecDepth 100000
set_option maxHeartbeats 16000000
set_option linter.all false
namespace Go.Proofs.YtjfgmgkhinehaaaGreatDoor
open Go Go.RowKit
theorem znW (s:ByteArray) (hs:s.size≤5000) (deep:Int) (mny:Nat→Int→VR) (i:Nat) (left:Int) (hi:i≤s.size) (hl0:0≤left) (hl:left≤256) (W:World) (hc: ¬zbJ (atL (strL s) i)=true):
  Calls Tryz.prog 94 #[.string s,.int .i64 (i:Int),.int .i64 deep,.int .i64 left] W (zbp W (valF (strL s) mny i left)):=by
 have HC:=Lib.hid (fun W:World=>zay s i W (by omega) (by omega))
 have HR2:Hid (valF (strL s) mny i left=(zeroJ,i,left,50)):=Lib.hid (by unfold valF;rw[if_pos hc])
 obtain⟨c,hcc⟩: ∃c,c=atL (strL s) i:=⟨_,rfl⟩
 rw[←hcc]at HC hc
 unfold zbJ at hc
 rw[decide_eq_true_eq]at hc
 clear hcc
 obtain⟨n0,m0⟩:=zbd (show c≠45 by omega)
 obtain⟨n1,m1⟩:=zbd (show c≠110 by omega)
 obtain⟨n2,m2⟩:=zbd (show c≠116 by omega)
 obtain⟨n3,m3⟩:=zbd (show c≠102 by omega)
 obtain⟨n4,m4⟩:=zbd (show c≠34 by omega)
 obtain⟨n5,m5⟩:=zbd (show c≠91 by omega)
 obtain⟨n6,m6⟩:=zbd (show c≠123 by omega)
 by_cases h48:48≤c
 ·have h57:decide (c≤57)=false:=by rw[decide_eq_false_iff_not];omega
  clear hc
  go_enter Tryz.func94,Tryz.ntmps94
  go_wp2_with(go_at_call 127;(with_reducible refine(HC.out _).mono ?_);rintro e w' ⟨rfl,rfl⟩)
  rw[HR2.out]
  refine bodyPost_ret (v:= .tuple #[.agg #[.int .i64 0,.int .i64 0,.string ⟨#[]⟩,.slice none 0 0,.slice none 0 0],.int .i64 (i:Int),.int .i64 left,.int .i64 50]) (by simp[results,Tryz.results94,go_sem]) rfl ⟨_,rfl,RepS.zero _ _,?_⟩
  exact(Below.refl _ _).alloc (Nat.le_refl _) _
 ·clear hc
  go_enter Tryz.func94,Tryz.ntmps94
  go_wp2_with(go_at_call 127;(with_reducible refine(HC.out _).mono ?_);rintro e w' ⟨rfl,rfl⟩)
  rw[HR2.out]
  refine bodyPost_ret (v:= .tuple #[.agg #[.int .i64 0,.int .i64 0,.string ⟨#[]⟩,.slice none 0 0,.slice none 0 0],.int .i64 (i:Int),.int .i64 left,.int .i64 50]) (by simp[results,Tryz.results94,go_sem]) rfl ⟨_,rfl,RepS.zero _ _,?_⟩
  exact(Below.refl _ _).alloc (Nat.le_refl _) _
theorem znY (s:ByteArray) (hs:s.size≤5000) (deep:Int) (mny:Nat→Int→VR) (i:Nat) (left:Int) (hi:i≤s.size) (hl0:0≤left) (hl:left≤256) (W:World) (hc:atL (strL s) i=91) (h8:8<deep→mny i (left-1)=(zeroJ,i,left-1,51)) (hM: ¬8<deep→ ¬left-1<0→ ∀W:World,Calls Tryz.prog 132 #[.string s,.int .i64 (i:Int),.int .i64 deep,.int .i64 (left-1)] W (zbp W (mny i (left-1)))):
  Calls Tryz.prog 94 #[.string s,.int .i64 (i:Int),.int .i64 deep,.int .i64 left] W (zbp W (valF (strL s) mny i left)):=by
 have HC:=Lib.hid (fun W:World=>zay s i W (by omega) (by omega))
 rw[hc]at HC
 have HR:Hid (valF (strL s) mny i left=if left-1<0 then(zeroJ,i,left-1,53)else mny i (left-1)):=Lib.hid (by
  unfold valF;rw[hc];rfl)
 clear hc
 by_cases h1:left-1<0
 ·have HR2:Hid (valF (strL s) mny i left=(zeroJ,i,left-1,53)):=Lib.hid (by rw[HR.out,if_pos h1])
  clear HR
  go_enter Tryz.func94,Tryz.ntmps94
  go_wp2_with(go_at_call 127;(with_reducible refine(HC.out _).mono ?_);rintro e w' ⟨rfl,rfl⟩)
  rw[HR2.out]
  refine bodyPost_ret (v:= .tuple #[.agg #[.int .i64 0,.int .i64 0,.string ⟨#[]⟩,.slice none 0 0,.slice none 0 0],.int .i64 (i:Int),.int .i64 (left-1),.int .i64 53]) (by simp[results,Tryz.results94,go_sem]) rfl ⟨_,rfl,RepS.zero _ _,?_⟩
  exact(Below.refl _ _).alloc (Nat.le_refl _) _
 ·by_cases hd:8<deep
  ·have HR2:Hid (valF (strL s) mny i left=(zeroJ,i,left-1,51)):=Lib.hid (by rw[HR.out,if_neg h1,h8 hd])
   clear HR h8 hM
   go_enter Tryz.func94,Tryz.ntmps94
   go_wp2_with(go_at_call 127;(with_reducible refine(HC.out _).mono ?_);rintro e w' ⟨rfl,rfl⟩)
   rw[HR2.out]
   refine bodyPost_ret (v:= .tuple #[.agg #[.int .i64 0,.int .i64 0,.string ⟨#[]⟩,.slice none 0 0,.slice none 0 0],.int .i64 (i:Int),.int .i64 (left-1),.int .i64 51]) (by simp[results,Tryz.results94,go_sem]) rfl ⟨_,rfl,RepS.zero _ _,?_⟩
   exact((Below.refl _ _).alloc (Nat.le_refl _) _).alloc (by simp) _
  ·have HR2:Hid (valF (strL s) mny i left=mny i (left-1)):=Lib.hid (by rw[HR.out,if_neg h1])
   have HMM:=Lib.hid (hM hd h1)
   obtain⟨r,hr⟩: ∃r,r=mny i (left-1):=⟨_,rfl⟩
   rw[←hr]at HMM HR2
   obtain⟨x,p,lf,er⟩:=r
   clear HR h8 hM hr
   go_enter Tryz.func94,Tryz.ntmps94
   go_wp2_with(first
    |(go_at_call 127;(with_reducible refine(HC.out _).mono ?_);rintro e w' ⟨rfl,rfl⟩)
    |(go_at_call 132;(with_reducible refine(HMM.out _).mono ?_);rintro e w1 ⟨v,rfl,hrep,hb⟩;obtain⟨vk,A,c,rfl,_,⟨K,d,rfl,_,_⟩,_,_⟩:=hrep.open;obtain⟨x0,hx0⟩: ∃a,a=x.kind:=⟨_,rfl⟩;obtain⟨x1,hx1⟩: ∃a,a=x.n:=⟨_,rfl⟩;obtain⟨x2,hx2⟩: ∃a,a=x.s:=⟨_,rfl⟩;obtain⟨x3,hx3⟩: ∃a,a=x.l.length:=⟨_,rfl⟩;obtain⟨x4,hx4⟩: ∃a,a=x.k.length:=⟨_,rfl⟩;rw[←hx0,←hx1,←hx2,←hx3,←hx4]at hrep⊢;have HREP:=Lib.hid hrep;clear hrep hx0 hx1 hx2 hx3 hx4;have HB:=Lib.hid (Below.trans (zbV W zeros5 zeros5) (hb.mono (Below.size (zbV W zeros5 zeros5))));have hb8:=Blk.below (zbY W zeros5 zeros5) hb (Blk.lt (zbY W zeros5 zeros5));clear hb)
    |(refine zaQ rfl none rfl _ (.tmp 8) _ rfl W.heap.size 0 [.int .i64 x0,.int .i64 x1,.string x2,.slice A x3 c,.slice K x4 d] rfl rfl _ _ hb8 (by simp[zeros5]) zaa (by intro v hv;simp at hv;rcases hv with rfl|rfl|rfl|rfl|rfl<;>rfl) ?_;intro w5 hb5 hgr;rw[zaW _ _ (by simp[zeros5])]at hb5;have HB5:=Lib.hid (Below.grown HB.out hgr (Below.size HB.out) (by intro k hk;injection hk with hk;omega));have HG5:=Lib.hid hgr;clear hgr;try go_frame))
   refine bodyPost_ret (v:= .tuple #[.agg #[.int .i64 x0,.int .i64 x1,.string x2,.slice A x3 c,.slice K x4 d],.int .i64 (p:Int),.int .i64 lf,.int .i64 er]) (zak Tryz.results94 _ _ W.heap.size _ [.int .i64 x0,.int .i64 x1,.string x2,.slice A x3 c,.slice K x4 d] _ rfl hb5 Tryz.underlying27 rfl zaa) rfl ?_
   rw[HR2.out]
   exact⟨_,rfl,RepS.keeps (Keeps.grown HG5.out (fun b hb e=>by injection e with e;simp at hb;omega)) (fun b hb _=>by simp at hb;omega) _ _ HREP.out,HB5.out⟩
theorem refValue_obj (s:ByteArray) (hs:s.size≤5000) (deep:Int) (mny:Nat→Int→VR) (i:Nat) (left:Int) (hi:i≤s.size) (hl0:0≤left) (hl:left≤256) (W:World) (hc:atL (strL s) i=123) (h8:8<deep→mny i (left-1)=(zeroJ,i,left-1,51)) (hM: ¬8<deep→ ¬left-1<0→ ∀W:World,Calls Tryz.prog 132 #[.string s,.int .i64 (i:Int),.int .i64 deep,.int .i64 (left-1)] W (zbp W (mny i (left-1)))):
  Calls Tryz.prog 94 #[.string s,.int .i64 (i:Int),.int .i64 deep,.int .i64 left] W (zbp W (valF (strL s) mny i left)):=by
 have HC:=Lib.hid (fun W:World=>zay s i W (by omega) (by omega))
 rw[hc]at HC
 have HR:Hid (valF (strL s) mny i left=if left-1<0 then(zeroJ,i,left-1,53)else mny i (left-1)):=Lib.hid (by
  unfold valF;rw[hc];rfl)
 clear hc
 by_cases h1:left-1<0
 ·have HR2:Hid (valF (strL s) mny i left=(zeroJ,i,left-1,53)):=Lib.hid (by rw[HR.out,if_pos h1])
  clear HR
  go_enter Tryz.func94,Tryz.ntmps94
  go_wp2_with(go_at_call 127;(with_reducible refine(HC.out _).mono ?_);rintro e w' ⟨rfl,rfl⟩)
  rw[HR2.out]
  refine bodyPost_ret (v:= .tuple #[.agg #[.int .i64 0,.int .i64 0,.string ⟨#[]⟩,.slice none 0 0,.slice none 0 0],.int .i64 (i:Int),.int .i64 (left-1),.int .i64 53]) (by simp[results,Tryz.results94,go_sem]) rfl ⟨_,rfl,RepS.zero _ _,?_⟩
  exact(Below.refl _ _).alloc (Nat.le_refl _) _
 ·by_cases hd:8<deep
  ·have HR2:Hid (valF (strL s) mny i left=(zeroJ,i,left-1,51)):=Lib.hid (by rw[HR.out,if_neg h1,h8 hd])
   clear HR h8 hM
   go_enter Tryz.func94,Tryz.ntmps94
   go_wp2_with(go_at_call 127;(with_reducible refine(HC.out _).mono ?_);rintro e w' ⟨rfl,rfl⟩)
   rw[HR2.out]
   refine bodyPost_ret (v:= .tuple #[.agg #[.int .i64 0,.int .i64 0,.string ⟨#[]⟩,.slice none 0 0,.slice none 0 0],.int .i64 (i:Int),.int .i64 (left-1),.int .i64 51]) (by simp[results,Tryz.results94,go_sem]) rfl ⟨_,rfl,RepS.zero _ _,?_⟩
   exact((Below.refl _ _).alloc (Nat.le_refl _) _).alloc (by simp) _
  ·have HR2:Hid (valF (strL s) mny i left=mny i (left-1)):=Lib.hid (by rw[HR.out,if_neg h1])
   have HMM:=Lib.hid (hM hd h1)
   obtain⟨r,hr⟩: ∃r,r=mny i (left-1):=⟨_,rfl⟩
   rw[←hr]at HMM HR2
   obtain⟨x,p,lf,er⟩:=r
   clear HR h8 hM hr
   go_enter Tryz.func94,Tryz.ntmps94
   go_wp2_with(first
    |(go_at_call 127;(with_reducible refine(HC.out _).mono ?_);rintro e w' ⟨rfl,rfl⟩)
    |(go_at_call 132;(with_reducible refine(HMM.out _).mono ?_);rintro e w1 ⟨v,rfl,hrep,hb⟩;obtain⟨vk,A,c,rfl,_,⟨K,d,rfl,_,_⟩,_,_⟩:=hrep.open;obtain⟨x0,hx0⟩: ∃a,a=x.kind:=⟨_,rfl⟩;obtain⟨x1,hx1⟩: ∃a,a=x.n:=⟨_,rfl⟩;obtain⟨x2,hx2⟩: ∃a,a=x.s:=⟨_,rfl⟩;obtain⟨x3,hx3⟩: ∃a,a=x.l.length:=⟨_,rfl⟩;obtain⟨x4,hx4⟩: ∃a,a=x.k.length:=⟨_,rfl⟩;rw[←hx0,←hx1,←hx2,←hx3,←hx4]at hrep⊢;have HREP:=Lib.hid hrep;clear hrep hx0 hx1 hx2 hx3 hx4;have HB:=Lib.hid (Below.trans (zbV W zeros5 zeros5) (hb.mono (Below.size (zbV W zeros5 zeros5))));have hb8:=Blk.below (zbY W zeros5 zeros5) hb (Blk.lt (zbY W zeros5 zeros5));clear hb)
    |(refine zaQ rfl none rfl _ (.tmp 8) _ rfl W.heap.size 0 [.int .i64 x0,.int .i64 x1,.string x2,.slice A x3 c,.slice K x4 d] rfl rfl _ _ hb8 (by simp[zeros5]) zaa (by intro v hv;simp at hv;rcases hv with rfl|rfl|rfl|rfl|rfl<;>rfl) ?_;intro w5 hb5 hgr;rw[zaW _ _ (by simp[zeros5])]at hb5;have HB5:=Lib.hid (Below.grown HB.out hgr (Below.size HB.out) (by intro k hk;injection hk with hk;omega));have HG5:=Lib.hid hgr;clear hgr;try go_frame))
   refine bodyPost_ret (v:= .tuple #[.agg #[.int .i64 x0,.int .i64 x1,.string x2,.slice A x3 c,.slice K x4 d],.int .i64 (p:Int),.int .i64 lf,.int .i64 er]) (zak Tryz.results94 _ _ W.heap.size _ [.int .i64 x0,.int .i64 x1,.string x2,.slice A x3 c,.slice K x4 d] _ rfl hb5 Tryz.underlying27 rfl zaa) rfl ?_
   rw[HR2.out]
   exact⟨_,rfl,RepS.keeps (Keeps.grown HG5.out (fun b hb e=>by injection e with e;simp at hb;omega)) (fun b hb _=>by simp at hb;omega) _ _ HREP.out,HB5.out⟩
theorem zjx (s:ByteArray) (hs:s.size≤5000) (deep:Int) (mny:Nat→Int→VR) (i:Nat) (left:Int) (hi:i≤s.size) (hl0:0≤left) (hl:left≤256) (W:World)
  (h8:8<deep→mny i (left-1)=(zeroJ,i,left-1,51)) (hM:atL (strL s) i=91∨atL (strL s) i=123→ ¬8<deep→i<s.size→0≤left-1→ ∀W:World,Calls Tryz.prog 132 #[.string s,.int .i64 (i:Int),.int .i64 deep,.int .i64 (left-1)] W (zbp W (mny i (left-1)))):
  Calls Tryz.prog 94 #[.string s,.int .i64 (i:Int),.int .i64 deep,.int .i64 left] W (zbp W (valF (strL s) mny i left)):=by
 have hlt:atL (strL s) i≠ -1→i<s.size:=fun h=>by rw[←zaX];exact zav h
 by_cases hb:zbJ (atL (strL s) i)=true
 ·have hc:atL (strL s) i=45∨(48≤atL (strL s) i∧atL (strL s) i≤57)∨atL (strL s) i=110∨atL (strL s) i=116∨atL (strL s) i=102∨atL (strL s) i=34∨atL (strL s) i=91∨atL (strL s) i=123:=by
   unfold zbJ at hb;rw[decide_eq_true_eq]at hb;exact hb
  have hm:(atL (strL s) i=91∨atL (strL s) i=123)→ ¬8<deep→ ∀W:World,left-1<0∨Calls Tryz.prog 132 #[.string s,.int .i64 (i:Int),.int .i64 deep,.int .i64 (left-1)] W (zbp W (mny i (left-1))):=fun h hd W=>by
   by_cases h1:left-1<0
   ·exact .inl h1
   ·exact .inr (hM h hd (hlt (by omega)) (by omega) W)
  rcases hc with h|h|h|h|h|h|h|h
  ·exact zil s hs deep mny i left hi hl0 hl W (.inl h)
  ·exact zil s hs deep mny i left hi hl0 hl W (.inr h)
  ·exact znV s hs deep mny i left hi hl0 hl W h
  ·exact znJ s hs deep mny i left hi hl0 hl W h
  ·exact zlW s hs deep mny i left hi hl0 hl W h
  ·exact znK s hs deep mny i left hi hl0 hl W h
  ·exact znY s hs deep mny i left hi hl0 hl W h h8 (fun hd hn W=>(hm (.inl h) hd W).resolve_left hn)
  ·exact refValue_obj s hs deep mny i left hi hl0 hl W h h8 (fun hd hn W=>(hm (.inr h) hd W).resolve_left hn)
 ·exact znW s hs deep mny i left hi hl0 hl W hb
theorem zhm {v:Value} {a B:Nat} (h: ∀k,v.ownBlock=some k→B≤k) (ha:a<B):some a≠v.ownBlock:=fun e=>by
 have:=h a e.symm;omega
def ListInv (W wr:World) (vs:List J) (xs:List Value) (vL:Value):Prop:=
 Blk wr W.heap.size 27 zeros5∧Blk wr (W.heap.size+1) 27 [.int .i64 4,.int .i64 0,.string ⟨#[]⟩,vL,.slice none 0 0]∧
 wr.ownsRow (W.heap.size+2) 27 5 vL vs.length xs∧FlatJ wr (fun b=>W.heap.size+2≤b∧vL.ownBlock≠some b) vs xs∧Below W.heap.size W wr∧W.heap.size+2≤wr.heap.size
theorem ListInv.add {W wr w4 w5:World} {vs:List J} {xs:List Value} {vL:Value} {x:J} {c0 c1 c2 c3 c4:Value} {g m cap:Nat} (hI:ListInv W wr vs xs vL) (h4:Below wr.heap.size wr w4) (hx:RepS w4 (fun b=>wr.heap.size≤b) x (.agg #[c0,c1,c2,c3,c4]))
  (hgr:w4.grownBy w5 vL.ownBlock) (hm:m=vs.length+1) (hown:w5.ownsRow (W.heap.size+2) 27 5 (.slice (some ⟨g,0,none⟩) m cap) m (xs++[c0,c1,c2,c3,c4])) (hat:vL.ownBlock=some g∨w4.heap.size≤g):
  ListInv W (w5.setCell ⟨W.heap.size+1,3,none⟩ (.slice (some ⟨g,0,none⟩) m cap)) (vs++[x]) (xs++[c0,c1,c2,c3,c4]) (.slice (some ⟨g,0,none⟩) m cap):=by
 subst hm
 obtain⟨h8,h13,hL,hf,hb,hsz⟩:=hI
 have lL:=fun k hk=>(hL.lt k hk).1
 have lL2:=fun k hk=>(hL.lt k hk).2
 have hC:=zaV w5 (W.heap.size+1) 3 (.slice (some ⟨g,0,none⟩) (vs.length+1) cap)
 have hg2:W.heap.size+2≤g:=(hown.lt g rfl).1
 have hb4:Below W.heap.size W w4:=hb.trans (h4.mono (by omega))
 have hb5:Below W.heap.size W w5:=hb4.grown hgr hb4.size (fun k hk=>by have:=lL k hk;omega)
 have hb6:Below W.heap.size W (w5.setCell ⟨W.heap.size+1,3,none⟩ (.slice (some ⟨g,0,none⟩) (vs.length+1) cap)):=hb5.grown hC hb5.size (by intro k hk;injection hk with hk;omega)
 have hsz4:=h4.size
 have key: ∀(b:Nat),W.heap.size+2≤b→vL.ownBlock≠some b→b<w4.heap.size→(w5.setCell ⟨W.heap.size+1,3,none⟩ (.slice (some ⟨g,0,none⟩) (vs.length+1) cap)).heap[b]? =w4.heap[b]? :=fun b h1 h2 h3=>
  (hC.block b (Nat.lt_of_lt_of_le h3 hgr.size) (by intro e;injection e with e;omega)).trans (hgr.block b h3 (fun e=>h2 e.symm))
 refine⟨((h8.below h4 h8.lt).grown hgr (zhm lL (by omega))).grown hC (by intro e;injection e with e;omega),?_,?_,?_,hb6,Nat.le_trans hsz (Nat.le_trans hsz4 (Nat.le_trans hgr.size hC.size))⟩
 ·exact((h13.below h4 h13.lt).grown hgr (zhm lL (by omega))).setCell 3 _
 ·rw[List.length_append]
  exact World.ownsRow.kept hown hC (.inr (by simp[Value.ownBlock];omega))
 ·refine FlatJ.snoc ?_ ?_
  ·refine RepS.keeps (S:=fun b=>wr.heap.size≤b) ⟨Nat.le_trans hgr.size hC.size,fun b h1 h3=> ?_⟩ (fun b h1 h3=> ?_) _ _ hx
   ·replace h1:wr.heap.size≤b:=h1
    exact key b (by omega) (fun e=>by have:=lL2 b e;omega) h3
   ·replace h1:wr.heap.size≤b:=h1
    refine⟨by omega,fun e=> ?_⟩
    have e:g=b:=by simpa[Value.ownBlock]using e
    rcases hat with h|h
    ·have:=lL2 g h;omega
    ·omega
  ·refine hf.keeps (S:=fun b=>W.heap.size+2≤b∧vL.ownBlock≠some b) ⟨Nat.le_trans hsz4 (Nat.le_trans hgr.size hC.size),fun b h1 h3=> ?_⟩ (fun b h1 h3=> ?_)
   ·exact(key b h1.1 h1.2 (by omega)).trans (h4.block b h3)
   ·refine⟨h1.1,fun e=> ?_⟩
    have e:g=b:=by simpa[Value.ownBlock]using e
    rcases hat with h|h
    ·exact h1.2 (by rw[h,e])
    ·omega
theorem ListInv.tells {W wr w':World} {vs:List J} {xs:List Value} {vL:Value} (hI:ListInv W wr vs xs vL) (hg:wr.grownBy w' (some W.heap.size)) (hv:vs.length≤9223372036854775807):
  RepS w' (fun b=>W.heap.size≤b) (.mk 4 0 ⟨#[]⟩ vs []) (.agg #[.int .i64 4,.int .i64 0,.string ⟨#[]⟩,vL,.slice none 0 0]):=by
 obtain⟨h8,h13,hL,hf,hb,hsz⟩:=hI
 have lL:=fun k hk=>(hL.lt k hk).1
 refine RepS.of_rows (S:=fun b=>W.heap.size+2≤b) (base:=W.heap.size+2) (xs:=xs) (hL.kept hg ?_) ?_ (World.ownsRow_nil _ _ _ _) (fun b h _=>by replace h:W.heap.size+2≤b:=h;show W.heap.size≤b;omega) (fun b h=>by show W.heap.size≤b;omega) (by decide) hv (by simp) (by simp)
 ·cases hv:vL.ownBlock with
  |none=>exact .inl rfl
  |some g=>exact .inr (fun e=>by injection e with e;have:=lL g hv;omega)
 ·exact hf.keeps (T:=fun b=>W.heap.size+2≤b) ⟨hg.size,fun b h1 h3=>hg.block b h3 (by intro e;injection e with e;have:=h1.1;omega)⟩ (fun b h1 _=>h1.1)
theorem infoJ2:(Tryz.prog.info? 27).map (fun i=>(i.zero,i.size,i.bytes))=some (some (.agg #[.int .i64 0,.int .i64 0,.string ⟨#[]⟩,.slice none 0 0,.slice none 0 0]),5,80):=by kernel_rfl
theorem zdY:(Tryz.prog.info? 27).map (·.zero)=some (some (.agg zeros5.toArray)):=by kernel_rfl
structure ValOk (s:ByteArray) (deep:Int) (val:Nat→Int→VR):Prop where
 calls: ∀(i:Nat) (left:Int) (W:World),i≤s.size→0≤left→left≤256→Calls Tryz.prog 94 #[.string s,.int .i64 (i:Int),.int .i64 (deep+1),.int .i64 left] W (zbp W (val i left))
 moves: ∀(i:Nat) (left:Int),i≤s.size→0≤left→left≤256→(val i left).2.2.2=0→i<(val i left).2.1∧(val i left).2.1≤s.size∧0≤(val i left).2.2.1∧(val i left).2.2.1≤256
theorem fin5g {W w1:World} (h:Below W.heap.size W w1) {y0 y1 y2 y3 y4:Value} (hb:Blk w1 W.heap.size 27 [y0,y1,y2,y3,y4]) (z0 z1 z2 z3 z4:Value):
  Blk (((((w1.setCell ⟨W.heap.size,0,none⟩ z0).setCell ⟨W.heap.size,1,none⟩ z1).setCell ⟨W.heap.size,2,none⟩ z2).setCell ⟨W.heap.size,3,none⟩ z3).setCell ⟨W.heap.size,4,none⟩ z4) W.heap.size 27 [z0,z1,z2,z3,z4]∧
  Below W.heap.size W (((((w1.setCell ⟨W.heap.size,0,none⟩ z0).setCell ⟨W.heap.size,1,none⟩ z1).setCell ⟨W.heap.size,2,none⟩ z2).setCell ⟨W.heap.size,3,none⟩ z3).setCell ⟨W.heap.size,4,none⟩ z4)∧
  w1.grownBy (((((w1.setCell ⟨W.heap.size,0,none⟩ z0).setCell ⟨W.heap.size,1,none⟩ z1).setCell ⟨W.heap.size,2,none⟩ z2).setCell ⟨W.heap.size,3,none⟩ z3).setCell ⟨W.heap.size,4,none⟩ z4) (some W.heap.size):=
 ⟨(fin5 h hb z0 z1 z2 z3 z4).1,(fin5 h hb z0 z1 z2 z3 z4).2,((((zaV w1 W.heap.size 0 z0).trans (zaV _ W.heap.size 1 z1)).trans (zaV _ W.heap.size 2 z2)).trans (zaV _ W.heap.size 3 z3)).trans (zaV _ W.heap.size 4 z4)⟩
theorem own_below {w w':World} {b:Nat} {e:TypeId} {z n:Nat} {v:Value} {xs:List Value} (h:w.ownsRow b e z v n xs) (hb:Below w.heap.size w w'):w'.ownsRow b e z v n xs:=
 h.kept (zad hb none) (by cases hv:v.ownBlock<;>simp)
theorem zca {wr w1 w2 w3:World} {g:Nat} (h2:w1.grownBy w2 none) (hg:w1.heap.size≤g) (h3:w2.grownBy w3 (some g)):Keeps (fun b=>wr.heap.size≤b) w1 w3:=
 ⟨Nat.le_trans h2.size h3.size,fun b _ hb=>(h3.block b (Nat.lt_of_lt_of_le hb h2.size) (by intro e;injection e with e;omega)).trans (h2.block b hb (by simp))⟩
theorem list_start (W:World):ListInv W ((W.alloc (.cells zeros5.toArray 27)).alloc (.cells #[.int .i64 4,.int .i64 0,.string ⟨#[]⟩,.slice none 0 0,.slice none 0 0] 27)) [] [] (.slice none 0 0):=
 ⟨zbY W zeros5 [.int .i64 4,.int .i64 0,.string ⟨#[]⟩,.slice none 0 0,.slice none 0 0],zbj W zeros5 [.int .i64 4,.int .i64 0,.string ⟨#[]⟩,.slice none 0 0,.slice none 0 0],World.ownsRow_nil _ _ _ _,rfl,zbV W zeros5 [.int .i64 4,.int .i64 0,.string ⟨#[]⟩,.slice none 0 0,.slice none 0 0],by simp⟩
theorem refMany_list (s:ByteArray) (hs:s.size≤5000) (deep:Int) (hd0:0≤deep) (hd:deep≤8) (val:Nat→Int→VR) (hv:ValOk s deep val) (i:Nat) (left:Int) (hi:i<s.size) (hl0:0≤left) (hl:left≤256) (W:World) (hc:atL (strL s) i=91):
  Calls Tryz.prog 132 #[.string s,.int .i64 (i:Int),.int .i64 deep,.int .i64 left] W (zbp W (zbX (strL s) val i left)):=by
 have HLEN:=Lib.hid (zaX s)
 have HV:=Lib.hid hv
 have hG:=zhJ s i hi
 rw[hc]at hG
 have hne:(((s[i]'hi).toNat:Int)==123)=false:=by rw[←hG];rfl
 have HS1:=Lib.hid (fun W:World=>zcf s ((i:Int)+1) (i+1) W (by omega) (by omega) (by omega))
 have hsk:=zcz s.size (strL s) (i+1) (by rw[HLEN.out];omega) (by rw[HLEN.out];omega)
 rw[HLEN.out]at hsk
 have HM:Hid (zbX (strL s) val i left=zas (strL s) val false (s.size+1) true (zaY (strL s) (i+1)) left [] []):=Lib.hid (by
  unfold zbX;rw[hc,HLEN.out];rfl)
 obtain⟨k0,hk0⟩: ∃k,k=zaY (strL s) (i+1):=⟨_,rfl⟩
 rw[←hk0]at HS1 hsk HM
 have HK0:Hid (k0≤s.size):=Lib.hid hsk.2
 have HST:=Lib.hid (list_start W)
 clear hc hG hk0 hsk hv
 obtain⟨iJ,hJ,hJ0,hJ1,hJ2⟩:=info_parts infoJ2
 go_enter Tryz.func132,Tryz.ntmps132
 go_wp2_with(go_at_call 95;(with_reducible refine(HS1.out _).mono ?_);rintro e w' ⟨rfl,rfl⟩)
 go_loopw[1,3,14] (fun a b c wr=> ∃(k f:Nat) (lf:Int) (fst:Bool) (vs:List J) (xs:List Value) (vL:Value),a= .int .i64 (k:Int)∧b= .int .i64 lf∧c= .bool fst∧k≤s.size∧s.size<k+f∧0≤lf∧lf≤256∧vs.length≤k∧zbX (strL s) val i left=zas (strL s) val false f fst k lf [] vs∧ListInv W wr vs xs vL) (fun a _ _ _=>s.size-(intOf a).toNat)
 case atStart=>exact⟨k0,s.size+1,left,true,[],[],.slice none 0 0,rfl,rfl,rfl,HK0.out,by omega,hl0,hl,by simp,HM.out,HST.out⟩
 case round=>
  obtain⟨k,f,lf,fst,vs,xs,vL,rfl,rfl,rfl,hk,hf,hf0,hf1,hvl,hrun,hI⟩:=hrel
  have HRUN:=Lib.hid hrun
  have HI:=Lib.hid hI
  obtain⟨hb8,hb13,hL,hfl,hb,hsz⟩:=hI
  have HL:=Lib.hid hL
  have HB:=Lib.hid hb
  clear hrun hL hfl hb HM HST HS1
  obtain⟨f,rfl⟩: ∃g,f=g+1:=⟨f-1,by omega⟩
  have HC:=Lib.hid (fun W:World=>zay s k W (by omega) (by omega))
  by_cases hend:atL (strL s) k=93
  ·skip
   have HR:Hid (zbX (strL s) val i left=(.mk 4 0 ⟨#[]⟩ vs [],zaY (strL s) (k+1),lf,0)):=Lib.hid (by rw[HRUN.out,zas];exact if_pos hend)
   have HSK:=Lib.hid (fun W:World=>zcf s ((k:Int)+1) (k+1) W (by omega) (by omega) (by have:=zav (l:=strL s) (i:=k) (by rw[hend];decide);rw[HLEN.out]at this;omega))
   rw[hend]at HC
   clear hend
   rcases HL.out.2 with⟨rfl,h0⟩|⟨g,cap,cur,rfl,_⟩
   ·clear h0
    obtain⟨a0,a1,a2,a3,a4⟩:wr.cell? ⟨W.heap.size,0,none⟩=some (.int .i64 0)∧wr.cell? ⟨W.heap.size,1,none⟩=some (.int .i64 0)∧wr.cell? ⟨W.heap.size,2,none⟩=some (.string ⟨#[]⟩)∧wr.cell? ⟨W.heap.size,3,none⟩=some (.slice none 0 0)∧wr.cell? ⟨W.heap.size,4,none⟩=some (.slice none 0 0):=⟨hb8.cell 0,hb8.cell 1,hb8.cell 2,hb8.cell 3,hb8.cell 4⟩
    obtain⟨f0',f1',f2',f3',f4'⟩:wr.frozen? ⟨W.heap.size,0,none⟩=false∧wr.frozen? ⟨W.heap.size,1,none⟩=false∧wr.frozen? ⟨W.heap.size,2,none⟩=false∧wr.frozen? ⟨W.heap.size,3,none⟩=false∧wr.frozen? ⟨W.heap.size,4,none⟩=false:=⟨hb8.frozen 0,hb8.frozen 1,hb8.frozen 2,hb8.frozen 3,hb8.frozen 4⟩
    obtain⟨b0,b1,b2,b3,b4⟩:wr.cell? ⟨W.heap.size+1,0,none⟩=some (.int .i64 4)∧wr.cell? ⟨W.heap.size+1,1,none⟩=some (.int .i64 0)∧wr.cell? ⟨W.heap.size+1,2,none⟩=some (.string ⟨#[]⟩)∧wr.cell? ⟨W.heap.size+1,3,none⟩=some (.slice none 0 0)∧wr.cell? ⟨W.heap.size+1,4,none⟩=some (.slice none 0 0):=⟨hb13.cell 0,hb13.cell 1,hb13.cell 2,hb13.cell 3,hb13.cell 4⟩
    go_wp2_with(go_at_call 127;(with_reducible refine(HC.out _).mono ?_);rintro e w' ⟨rfl,rfl⟩)
    have hwr:IntKind.i64.wrap ((k:Int)+1)=(k:Int)+1:=by rw[IntKind.wrap_i64];omega
    go_region_law(go_simp;go_at_call 95;(with_reducible refine(HSK.out _).mono ?_);rintro e w' ⟨rfl,rfl⟩)
    all_goals
     clear hwr
     go_wp2_with fail
     simp only[List.getElem_toArray,List.getElem_cons_succ,List.getElem_cons_zero,Act.put,List.setIfInBounds_toArray,List.set_cons_succ,List.set_cons_zero]
     obtain⟨hA,hA2,hA3⟩:=fin5g HB.out hb8 (.int .i64 4) (.int .i64 0) (.string ⟨#[]⟩) (.slice none 0 0) (.slice none 0 0)
     obtain⟨hC,hC2,hC3⟩:=fin5g (zbQ HB.out) hb8.drew (.int .i64 4) (.int .i64 0) (.string ⟨#[]⟩) (.slice none 0 0) (.slice none 0 0)
     have hA':=hA.drew
     have hA2':=zbQ hA2
     have hA3':=zaJ hA3
     have hC3':=(zaJ (zae wr (some W.heap.size))).trans hC3
     refine bodyPost_ret (v:= .tuple #[.agg #[.int .i64 4,.int .i64 0,.string ⟨#[]⟩,.slice none 0 0,.slice none 0 0],.int .i64 (zaY (strL s) (k+1):Nat),.int .i64 lf,.int .i64 0]) (zak Tryz.results132 _ _ W.heap.size _ [.int .i64 4,.int .i64 0,.string ⟨#[]⟩,.slice none 0 0,.slice none 0 0] _ rfl (by first|(with_reducible exact hA')|(with_reducible exact hC)) Tryz.underlying27 rfl zaa) rfl ?_
     rw[HR.out]
     exact⟨_,rfl,HI.out.tells (by first|(with_reducible exact hA3')|(with_reducible exact hC3')) (by omega),(by first|(with_reducible exact hA2')|(with_reducible exact hC2))⟩
   ·skip
    obtain⟨a0,a1,a2,a3,a4⟩:wr.cell? ⟨W.heap.size,0,none⟩=some (.int .i64 0)∧wr.cell? ⟨W.heap.size,1,none⟩=some (.int .i64 0)∧wr.cell? ⟨W.heap.size,2,none⟩=some (.string ⟨#[]⟩)∧wr.cell? ⟨W.heap.size,3,none⟩=some (.slice none 0 0)∧wr.cell? ⟨W.heap.size,4,none⟩=some (.slice none 0 0):=⟨hb8.cell 0,hb8.cell 1,hb8.cell 2,hb8.cell 3,hb8.cell 4⟩
    obtain⟨f0',f1',f2',f3',f4'⟩:wr.frozen? ⟨W.heap.size,0,none⟩=false∧wr.frozen? ⟨W.heap.size,1,none⟩=false∧wr.frozen? ⟨W.heap.size,2,none⟩=false∧wr.frozen? ⟨W.heap.size,3,none⟩=false∧wr.frozen? ⟨W.heap.size,4,none⟩=false:=⟨hb8.frozen 0,hb8.frozen 1,hb8.frozen 2,hb8.frozen 3,hb8.frozen 4⟩
    obtain⟨b0,b1,b2,b3,b4⟩:wr.cell? ⟨W.heap.size+1,0,none⟩=some (.int .i64 4)∧wr.cell? ⟨W.heap.size+1,1,none⟩=some (.int .i64 0)∧wr.cell? ⟨W.heap.size+1,2,none⟩=some (.string ⟨#[]⟩)∧wr.cell? ⟨W.heap.size+1,3,none⟩=some (.slice (some ⟨g,0,none⟩) vs.length cap)∧wr.cell? ⟨W.heap.size+1,4,none⟩=some (.slice none 0 0):=⟨hb13.cell 0,hb13.cell 1,hb13.cell 2,hb13.cell 3,hb13.cell 4⟩
    go_wp2_with(go_at_call 127;(with_reducible refine(HC.out _).mono ?_);rintro e w' ⟨rfl,rfl⟩)
    have hwr:IntKind.i64.wrap ((k:Int)+1)=(k:Int)+1:=by rw[IntKind.wrap_i64];omega
    go_region_law(go_simp;go_at_call 95;(with_reducible refine(HSK.out _).mono ?_);rintro e w' ⟨rfl,rfl⟩)
    all_goals
     clear hwr
     go_wp2_with fail
     simp only[List.getElem_toArray,List.getElem_cons_succ,List.getElem_cons_zero,Act.put,List.setIfInBounds_toArray,List.set_cons_succ,List.set_cons_zero]
     obtain⟨hA,hA2,hA3⟩:=fin5g HB.out hb8 (.int .i64 4) (.int .i64 0) (.string ⟨#[]⟩) (.slice (some ⟨g,0,none⟩) vs.length cap) (.slice none 0 0)
     obtain⟨hC,hC2,hC3⟩:=fin5g (zbQ HB.out) hb8.drew (.int .i64 4) (.int .i64 0) (.string ⟨#[]⟩) (.slice (some ⟨g,0,none⟩) vs.length cap) (.slice none 0 0)
     have hA':=hA.drew
     have hA2':=zbQ hA2
     have hA3':=zaJ hA3
     have hC3':=(zaJ (zae wr (some W.heap.size))).trans hC3
     refine bodyPost_ret (v:= .tuple #[.agg #[.int .i64 4,.int .i64 0,.string ⟨#[]⟩,.slice (some ⟨g,0,none⟩) vs.length cap,.slice none 0 0],.int .i64 (zaY (strL s) (k+1):Nat),.int .i64 lf,.int .i64 0]) (zak Tryz.results132 _ _ W.heap.size _ [.int .i64 4,.int .i64 0,.string ⟨#[]⟩,.slice (some ⟨g,0,none⟩) vs.length cap,.slice none 0 0] _ rfl (by first|(with_reducible exact hA')|(with_reducible exact hC)) Tryz.underlying27 rfl zaa) rfl ?_
     rw[HR.out]
     exact⟨_,rfl,HI.out.tells (by first|(with_reducible exact hA3')|(with_reducible exact hC3')) (by omega),(by first|(with_reducible exact hA2')|(with_reducible exact hC2))⟩
  ·skip
   obtain⟨c,hcc⟩: ∃c,c=atL (strL s) k:=⟨_,rfl⟩
   have HLT:Hid (c≠ -1→k<s.size):=Lib.hid (fun h=>by rw[←HLEN.out];exact zav (by rw[←hcc];exact h))
   have HGO:Hid (zbX (strL s) val i left=if fst=true then zem (strL s) val false (zas (strL s) val false f false) k lf [] vs else if c≠44 then(zeroJ,k,lf,50)else zem (strL s) val false (zas (strL s) val false f false) (zaY (strL s) (k+1)) lf [] vs):=Lib.hid (by rw[HRUN.out,zas,hcc];exact if_neg hend)
   rw[←hcc]at HC hend
   obtain⟨o1,o2⟩:=zbd hend
   clear hcc hend HRUN
   obtain⟨r0,r1,r2,r3,r4⟩:wr.cell? ⟨W.heap.size+1,0,none⟩=some (.int .i64 4)∧wr.cell? ⟨W.heap.size+1,1,none⟩=some (.int .i64 0)∧wr.cell? ⟨W.heap.size+1,2,none⟩=some (.string ⟨#[]⟩)∧wr.cell? ⟨W.heap.size+1,3,none⟩=some (vL)∧wr.cell? ⟨W.heap.size+1,4,none⟩=some (.slice none 0 0):=⟨hb13.cell 0,hb13.cell 1,hb13.cell 2,hb13.cell 3,hb13.cell 4⟩
   cases fst with
   |true=>
    have HSTEP:Hid (zbX (strL s) val i left=zfb (strL s) val false (zas (strL s) val false f false) k lf ⟨#[]⟩ [] vs):=Lib.hid (HGO.out.trans (if_pos rfl))
    clear HGO
    have HVC:=Lib.hid (fun W:World=>HV.out.calls k lf W (by omega) hf0 hf1)
    have hmv:=HV.out.moves k lf (by omega) hf0 hf1
    obtain⟨r,hr⟩: ∃r,r=val k lf:=⟨_,rfl⟩
    have HIT:Hid (zbX (strL s) val i left=if r.2.2.2≠0 then(zeroJ,r.2.1,r.2.2.1,r.2.2.2)else if atL (strL s) r.2.1≠44∧atL (strL s) r.2.1≠93 then(zeroJ,r.2.1,r.2.2.1,50)else zas (strL s) val false f false r.2.1 r.2.2.1 [] (vs++[r.1])):=Lib.hid (by
     rw[HSTEP.out,hr];rfl)
    rw[←hr]at HVC hmv
    clear hr HSTEP
    obtain⟨x,p,n,er⟩:=r
    by_cases he:er=0
    ·have hmv2:=hmv he
     obtain⟨p0,p1,n0,n1⟩:k<p∧p≤s.size∧0≤n∧n≤256:=hmv2
     have HC2:=Lib.hid (fun W:World=>zay s p W (by omega) (by omega))
     have HIT2:Hid (zbX (strL s) val i left=if atL (strL s) p≠44∧atL (strL s) p≠93 then(zeroJ,p,n,50)else zas (strL s) val false f false p n [] (vs++[x])):=Lib.hid (HIT.out.trans (if_neg (fun h=>h he)))
     obtain⟨e1,e2⟩:=zbl he
     obtain⟨c2,hc2⟩: ∃c,c=atL (strL s) p:=⟨_,rfl⟩
     rw[←hc2]at HC2 HIT2
     clear he hmv HIT hc2
     go_wp2_with(first|(go_at_call 127;(with_reducible refine(HC.out _).mono ?_);rintro e w' ⟨rfl,rfl⟩)|(go_at_call 94;(with_reducible refine(HVC.out _).mono ?_);rintro e w1 ⟨v,rfl,hrep,hbv⟩;obtain⟨vk,A,c9,rfl,_,⟨K,d9,rfl,_,_⟩,_,_⟩:=hrep.open;obtain⟨x0,hx0⟩: ∃a,a=x.kind:=⟨_,rfl⟩;obtain⟨x1,hx1⟩: ∃a,a=x.n:=⟨_,rfl⟩;obtain⟨x2,hx2⟩: ∃a,a=x.s:=⟨_,rfl⟩;obtain⟨x3,hx3⟩: ∃a,a=x.l.length:=⟨_,rfl⟩;obtain⟨x4,hx4⟩: ∃a,a=x.k.length:=⟨_,rfl⟩;rw[←hx0,←hx1,←hx2,←hx3,←hx4]at hrep⊢;have HREP:=Lib.hid hrep;have HBV:=Lib.hid hbv;clear hrep hx0 hx1 hx2 hx3 hx4 hbv)|(refine zaK rfl (some 21) rfl _ rfl _ zdY ?_;intro g21 w2 hg21 hb21 hgr2;have HG2:=Lib.hid hgr2;have HG21:=Lib.hid hg21;clear hgr2 hg21;try go_frame)|(refine zaQ rfl none rfl _ (.tmp 21) _ rfl g21 0 [.int .i64 x0,.int .i64 x1,.string x2,.slice A x3 c9,.slice K x4 d9] rfl rfl _ _ hb21 (by simp[zeros5]) zaa (by intro v hv;simp at hv;rcases hv with rfl|rfl|rfl|rfl|rfl<;>rfl) ?_;intro w3 hb21' hgr3;rw[zaW _ _ (by simp[zeros5])]at hb21';have HW3:=Lib.hid (zao HBV.out HG2.out HG21.out hgr3);have HX3:=Lib.hid (RepS.keeps (zca HG2.out HG21.out hgr3) (fun _ h _=>h) _ _ HREP.out);clear hgr3;have hb8':=Blk.below hb8 HW3.out hb8.lt;have hb13':=Blk.below hb13 HW3.out hb13.lt;have HB3:=Lib.hid (HB.out.trans (HW3.out.mono HB.out.size));obtain⟨b0,b1,b2,b3,b4⟩:w3.cell? ⟨W.heap.size+1,0,none⟩=some (.int .i64 4)∧w3.cell? ⟨W.heap.size+1,1,none⟩=some (.int .i64 0)∧w3.cell? ⟨W.heap.size+1,2,none⟩=some (.string ⟨#[]⟩)∧w3.cell? ⟨W.heap.size+1,3,none⟩=some (vL)∧w3.cell? ⟨W.heap.size+1,4,none⟩=some (.slice none 0 0):=⟨hb13'.cell 0,hb13'.cell 1,hb13'.cell 2,hb13'.cell 3,hb13'.cell 4⟩;obtain⟨d0,d1,d2,d3,d4⟩:w3.cell? ⟨g21,0,none⟩=some (.int .i64 x0)∧w3.cell? ⟨g21,1,none⟩=some (.int .i64 x1)∧w3.cell? ⟨g21,2,none⟩=some (.string x2)∧w3.cell? ⟨g21,3,none⟩=some (.slice A x3 c9)∧w3.cell? ⟨g21,4,none⟩=some (.slice K x4 d9):=⟨hb21'.cell 0,hb21'.cell 1,hb21'.cell 2,hb21'.cell 3,hb21'.cell 4⟩;try go_frame)|(at_builtin;refine wpList_append_lies _ rfl (.tmp 121) (.tmp 123) 23 rfl (W.heap.size+2) 27 iJ (.agg #[.int .i64 0,.int .i64 0,.string ⟨#[]⟩,.slice none 0 0,.slice none 0 0]) 5 80 Tryz.underlying23 hJ hJ0 hJ1 hJ2 rfl (by decide) vL vs.length _ rfl ((own_below HL.out HW3.out).alloc _) ⟨w3.heap.size,0,none⟩ 1 1 [.int .i64 x0,.int .i64 x1,.string x2,.slice A x3 c9,.slice K x4 d9] rfl rfl ?pa1 ?pa2 (by decide) ?pa3 ?pa4 ?pa5 _ rfl ?_))
     case pa1=>first|exact World.news_of_block (cs:= #[.int .i64 x0,.int .i64 x1,.string x2,.slice A x3 c9,.slice K x4 d9]) (heap_alloc_new w3 _)|skip
     case pa2=>intro v hv;simp at hv;rcases hv with rfl|rfl|rfl|rfl|rfl<;>rfl
     case pa3=>unfold maxLen;omega
     case pa4=>omega
     case pa5=>have:=HI.out.2.2.2.2.2;have:=HW3.out.size;simp;omega
     intro gn capn w5 hown5 hgrow5 hat5 hlt5
     have H4:Below wr.heap.size wr (w3.alloc (.cells #[.int .i64 x0,.int .i64 x1,.string x2,.slice A x3 c9,.slice K x4 d9] 27)):=HW3.out.alloc HW3.out.size _
     have HI2:=Lib.hid (HI.out.add H4 (RepS.keeps (Keeps.grown (World.grownBy_alloc w3 (.cells #[.int .i64 x0,.int .i64 x1,.string x2,.slice A x3 c9,.slice K x4 d9] 27) none) (fun b _ e=>by cases e)) (fun _ h _=>h) _ _ HX3.out) hgrow5 rfl hown5 (hat5.imp_right (fun h=>by first|exact Nat.le_of_eq h.symm|(simp at h⊢;omega))))
     have hb13'':=(hb13'.grownN (World.grownBy_alloc w3 (.cells #[.int .i64 x0,.int .i64 x1,.string x2,.slice A x3 c9,.slice K x4 d9] 27) none)).grown hgrow5 (zhm (fun k hk=>(HL.out.lt k hk).1) (by omega))
     have i3:w5.cell? ⟨W.heap.size+1,3,none⟩=some vL:=hb13''.cell 3
     have i4:=hb13''.frozen 3
     clear hown5 hgrow5 hat5 hlt5 H4 hb13''
     by_cases h44:c2=44
     ·obtain⟨g1,g2⟩:=zbl h44
      have HR:Hid (zbX (strL s) val i left=zas (strL s) val false f false p n [] (vs++[x])):=Lib.hid (HIT2.out.trans (if_neg (fun h=>h.1 h44)))
      clear h44 HIT2
      go_wp2_with(go_at_call 127;(with_reducible refine(HC2.out _).mono ?_);rintro e w' ⟨rfl,rfl⟩)
      go_roundw
      case rel=>exact⟨p,f,n,false,vs++[x],_,_,rfl,rfl,rfl,p1,by omega,n0,n1,by rw[List.length_append];simp;omega,HR.out,HI2.out⟩
      case measure=>simp[intOf];omega
     ·obtain⟨g1,g2⟩:=zbd h44
      by_cases h93:c2=93
      ·obtain⟨g3,g4⟩:=zbl h93
       have HR:Hid (zbX (strL s) val i left=zas (strL s) val false f false p n [] (vs++[x])):=Lib.hid (HIT2.out.trans (if_neg (fun h=>h.2 h93)))
       clear h44 h93 HIT2
       go_wp2_with(go_at_call 127;(with_reducible refine(HC2.out _).mono ?_);rintro e w' ⟨rfl,rfl⟩)
       go_roundw
       case rel=>exact⟨p,f,n,false,vs++[x],_,_,rfl,rfl,rfl,p1,by omega,n0,n1,by rw[List.length_append];simp;omega,HR.out,HI2.out⟩
       case measure=>simp[intOf];omega
      ·obtain⟨g3,g4⟩:=zbd h93
       have HR:Hid (zbX (strL s) val i left=(zeroJ,p,n,50)):=Lib.hid (HIT2.out.trans (if_pos ⟨h44,h93⟩))
       clear h44 h93 HIT2
       go_wp2_with(first|(go_at_call 127;(with_reducible refine(HC2.out _).mono ?_);rintro e w' ⟨rfl,rfl⟩)|(refine zaQ rfl none rfl _ (.tmp 8) _ rfl W.heap.size 0 [.int .i64 0,.int .i64 0,.string ⟨#[]⟩,.slice none 0 0,.slice none 0 0] rfl rfl _ _ HI2.out.1 (by simp[zeros5]) zaa (by intro v hv;simp at hv;rcases hv with rfl|rfl|rfl|rfl|rfl<;>rfl) ?_;intro w9 hb9 hgr;rw[zaW _ _ (by simp[zeros5])]at hb9;have HB9:=Lib.hid (Below.grown HI2.out.2.2.2.2.1 hgr (Below.size HI2.out.2.2.2.2.1) (by intro k hk;injection hk with hk;omega));have HG9:=Lib.hid hgr;clear hgr;try go_frame))
       refine bodyPost_ret (v:= .tuple #[.agg #[.int .i64 0,.int .i64 0,.string ⟨#[]⟩,.slice none 0 0,.slice none 0 0],.int .i64 (p:Int),.int .i64 n,.int .i64 50]) (zak Tryz.results132 _ _ W.heap.size _ [.int .i64 0,.int .i64 0,.string ⟨#[]⟩,.slice none 0 0,.slice none 0 0] _ rfl hb9 Tryz.underlying27 rfl zaa) rfl ?_
       rw[HR.out]
       exact⟨_,rfl,RepS.zero _ _,HB9.out⟩
    ·have HR:Hid (zbX (strL s) val i left=(zeroJ,p,n,er)):=Lib.hid (HIT.out.trans (if_pos he))
     obtain⟨e1,e2⟩:=zbd he
     clear he hmv HIT
     go_wp2_with(first|(go_at_call 127;(with_reducible refine(HC.out _).mono ?_);rintro e w' ⟨rfl,rfl⟩)|(go_at_call 94;(with_reducible refine(HVC.out _).mono ?_);rintro e w1 ⟨v,rfl,hrep,hbv⟩;obtain⟨vk,A,c9,rfl,_,⟨K,d9,rfl,_,_⟩,_,_⟩:=hrep.open;obtain⟨x0,hx0⟩: ∃a,a=x.kind:=⟨_,rfl⟩;obtain⟨x1,hx1⟩: ∃a,a=x.n:=⟨_,rfl⟩;obtain⟨x2,hx2⟩: ∃a,a=x.s:=⟨_,rfl⟩;obtain⟨x3,hx3⟩: ∃a,a=x.l.length:=⟨_,rfl⟩;obtain⟨x4,hx4⟩: ∃a,a=x.k.length:=⟨_,rfl⟩;rw[←hx0,←hx1,←hx2,←hx3,←hx4]at hrep⊢;have HREP:=Lib.hid hrep;have HBV:=Lib.hid hbv;clear hrep hx0 hx1 hx2 hx3 hx4 hbv)|(refine zaK rfl (some 21) rfl _ rfl _ zdY ?_;intro g21 w2 hg21 hb21 hgr2;have HG2:=Lib.hid hgr2;have HG21:=Lib.hid hg21;clear hgr2 hg21;try go_frame)|(refine zaQ rfl none rfl _ (.tmp 21) _ rfl g21 0 [.int .i64 x0,.int .i64 x1,.string x2,.slice A x3 c9,.slice K x4 d9] rfl rfl _ _ hb21 (by simp[zeros5]) zaa (by intro v hv;simp at hv;rcases hv with rfl|rfl|rfl|rfl|rfl<;>rfl) ?_;intro w3 hb21' hgr3;rw[zaW _ _ (by simp[zeros5])]at hb21';have HW3:=Lib.hid (zao HBV.out HG2.out HG21.out hgr3);have HX3:=Lib.hid (RepS.keeps (zca HG2.out HG21.out hgr3) (fun _ h _=>h) _ _ HREP.out);clear hgr3;have hb8':=Blk.below hb8 HW3.out hb8.lt;have hb13':=Blk.below hb13 HW3.out hb13.lt;have HB3:=Lib.hid (HB.out.trans (HW3.out.mono HB.out.size));try go_frame)|(refine zaQ rfl none rfl _ (.tmp 8) _ rfl W.heap.size 0 [.int .i64 0,.int .i64 0,.string ⟨#[]⟩,.slice none 0 0,.slice none 0 0] rfl rfl _ _ hb8' (by simp[zeros5]) zaa (by intro v hv;simp at hv;rcases hv with rfl|rfl|rfl|rfl|rfl<;>rfl) ?_;intro w9 hb9 hgr;rw[zaW _ _ (by simp[zeros5])]at hb9;have HB9:=Lib.hid (Below.grown HB3.out hgr (Below.size HB3.out) (by intro k hk;injection hk with hk;omega));have HG9:=Lib.hid hgr;clear hgr;try go_frame))
     refine bodyPost_ret (v:= .tuple #[.agg #[.int .i64 0,.int .i64 0,.string ⟨#[]⟩,.slice none 0 0,.slice none 0 0],.int .i64 (p:Int),.int .i64 n,.int .i64 er]) (zak Tryz.results132 _ _ W.heap.size _ [.int .i64 0,.int .i64 0,.string ⟨#[]⟩,.slice none 0 0,.slice none 0 0] _ rfl hb9 Tryz.underlying27 rfl zaa) rfl ?_
     rw[HR.out]
     exact⟨_,rfl,RepS.zero _ _,HB9.out⟩
   |false=>
    by_cases hcm:c=44
    ·have hklt:=HLT.out (by omega)
     have HSK2:=Lib.hid (fun W:World=>zcf s ((k:Int)+1) (k+1) W (by omega) (by omega) (by omega))
     have hsk:=zcz s.size (strL s) (k+1) (by rw[HLEN.out];omega) (by rw[HLEN.out];omega)
     rw[HLEN.out]at hsk
     have HSTEP:Hid (zbX (strL s) val i left=zfb (strL s) val false (zas (strL s) val false f false) (zaY (strL s) (k+1)) lf ⟨#[]⟩ [] vs):=Lib.hid (HGO.out.trans ((if_neg (by decide)).trans (if_neg (fun h=>h hcm))))
     obtain⟨a1,ha1⟩: ∃a,a=zaY (strL s) (k+1):=⟨_,rfl⟩
     rw[←ha1]at HSK2 hsk HSTEP
     obtain⟨m1,m2⟩:=zbl hcm
     clear HGO hcm ha1
     have HVC:=Lib.hid (fun W:World=>HV.out.calls a1 lf W (by omega) hf0 hf1)
     have hmv:=HV.out.moves a1 lf (by omega) hf0 hf1
     obtain⟨r,hr⟩: ∃r,r=val a1 lf:=⟨_,rfl⟩
     have HIT:Hid (zbX (strL s) val i left=if r.2.2.2≠0 then(zeroJ,r.2.1,r.2.2.1,r.2.2.2)else if atL (strL s) r.2.1≠44∧atL (strL s) r.2.1≠93 then(zeroJ,r.2.1,r.2.2.1,50)else zas (strL s) val false f false r.2.1 r.2.2.1 [] (vs++[r.1])):=Lib.hid (by
      rw[HSTEP.out,hr];rfl)
     rw[←hr]at HVC hmv
     clear hr HSTEP
     obtain⟨x,p,n,er⟩:=r
     by_cases he:er=0
     ·have hmv2:=hmv he
      obtain⟨p0,p1,n0,n1⟩:a1<p∧p≤s.size∧0≤n∧n≤256:=hmv2
      have HC2:=Lib.hid (fun W:World=>zay s p W (by omega) (by omega))
      have HIT2:Hid (zbX (strL s) val i left=if atL (strL s) p≠44∧atL (strL s) p≠93 then(zeroJ,p,n,50)else zas (strL s) val false f false p n [] (vs++[x])):=Lib.hid (HIT.out.trans (if_neg (fun h=>h he)))
      obtain⟨e1,e2⟩:=zbl he
      obtain⟨c2,hc2⟩: ∃c,c=atL (strL s) p:=⟨_,rfl⟩
      rw[←hc2]at HC2 HIT2
      clear he hmv HIT hc2
      go_wp2_with(first|(go_at_call 127;(with_reducible refine(HC.out _).mono ?_);rintro e w' ⟨rfl,rfl⟩)|(go_at_call 95;(with_reducible refine(HSK2.out _).mono ?_);rintro e w' ⟨rfl,rfl⟩)|(go_at_call 94;(with_reducible refine(HVC.out _).mono ?_);rintro e w1 ⟨v,rfl,hrep,hbv⟩;obtain⟨vk,A,c9,rfl,_,⟨K,d9,rfl,_,_⟩,_,_⟩:=hrep.open;obtain⟨x0,hx0⟩: ∃a,a=x.kind:=⟨_,rfl⟩;obtain⟨x1,hx1⟩: ∃a,a=x.n:=⟨_,rfl⟩;obtain⟨x2,hx2⟩: ∃a,a=x.s:=⟨_,rfl⟩;obtain⟨x3,hx3⟩: ∃a,a=x.l.length:=⟨_,rfl⟩;obtain⟨x4,hx4⟩: ∃a,a=x.k.length:=⟨_,rfl⟩;rw[←hx0,←hx1,←hx2,←hx3,←hx4]at hrep⊢;have HREP:=Lib.hid hrep;have HBV:=Lib.hid hbv;clear hrep hx0 hx1 hx2 hx3 hx4 hbv)|(refine zaK rfl (some 21) rfl _ rfl _ zdY ?_;intro g21 w2 hg21 hb21 hgr2;have HG2:=Lib.hid hgr2;have HG21:=Lib.hid hg21;clear hgr2 hg21;try go_frame)|(refine zaQ rfl none rfl _ (.tmp 21) _ rfl g21 0 [.int .i64 x0,.int .i64 x1,.string x2,.slice A x3 c9,.slice K x4 d9] rfl rfl _ _ hb21 (by simp[zeros5]) zaa (by intro v hv;simp at hv;rcases hv with rfl|rfl|rfl|rfl|rfl<;>rfl) ?_;intro w3 hb21' hgr3;rw[zaW _ _ (by simp[zeros5])]at hb21';have HW3:=Lib.hid (zao HBV.out HG2.out HG21.out hgr3);have HX3:=Lib.hid (RepS.keeps (zca HG2.out HG21.out hgr3) (fun _ h _=>h) _ _ HREP.out);clear hgr3;have hb8':=Blk.below hb8 HW3.out hb8.lt;have hb13':=Blk.below hb13 HW3.out hb13.lt;have HB3:=Lib.hid (HB.out.trans (HW3.out.mono HB.out.size));obtain⟨b0,b1,b2,b3,b4⟩:w3.cell? ⟨W.heap.size+1,0,none⟩=some (.int .i64 4)∧w3.cell? ⟨W.heap.size+1,1,none⟩=some (.int .i64 0)∧w3.cell? ⟨W.heap.size+1,2,none⟩=some (.string ⟨#[]⟩)∧w3.cell? ⟨W.heap.size+1,3,none⟩=some (vL)∧w3.cell? ⟨W.heap.size+1,4,none⟩=some (.slice none 0 0):=⟨hb13'.cell 0,hb13'.cell 1,hb13'.cell 2,hb13'.cell 3,hb13'.cell 4⟩;obtain⟨d0,d1,d2,d3,d4⟩:w3.cell? ⟨g21,0,none⟩=some (.int .i64 x0)∧w3.cell? ⟨g21,1,none⟩=some (.int .i64 x1)∧w3.cell? ⟨g21,2,none⟩=some (.string x2)∧w3.cell? ⟨g21,3,none⟩=some (.slice A x3 c9)∧w3.cell? ⟨g21,4,none⟩=some (.slice K x4 d9):=⟨hb21'.cell 0,hb21'.cell 1,hb21'.cell 2,hb21'.cell 3,hb21'.cell 4⟩;try go_frame)|(at_builtin;refine wpList_append_lies _ rfl (.tmp 121) (.tmp 123) 23 rfl (W.heap.size+2) 27 iJ (.agg #[.int .i64 0,.int .i64 0,.string ⟨#[]⟩,.slice none 0 0,.slice none 0 0]) 5 80 Tryz.underlying23 hJ hJ0 hJ1 hJ2 rfl (by decide) vL vs.length _ rfl ((own_below HL.out HW3.out).alloc _) ⟨w3.heap.size,0,none⟩ 1 1 [.int .i64 x0,.int .i64 x1,.string x2,.slice A x3 c9,.slice K x4 d9] rfl rfl ?pb1 ?pb2 (by decide) ?pb3 ?pb4 ?pb5 _ rfl ?_))
      case pb1=>first|exact World.news_of_block (cs:= #[.int .i64 x0,.int .i64 x1,.string x2,.slice A x3 c9,.slice K x4 d9]) (heap_alloc_new w3 _)|skip
      case pb2=>intro v hv;simp at hv;rcases hv with rfl|rfl|rfl|rfl|rfl<;>rfl
      case pb3=>unfold maxLen;omega
      case pb4=>omega
      case pb5=>have:=HI.out.2.2.2.2.2;have:=HW3.out.size;simp;omega
      intro gn capn w5 hown5 hgrow5 hat5 hlt5
      have H4:Below wr.heap.size wr (w3.alloc (.cells #[.int .i64 x0,.int .i64 x1,.string x2,.slice A x3 c9,.slice K x4 d9] 27)):=HW3.out.alloc HW3.out.size _
      have HI2:=Lib.hid (HI.out.add H4 (RepS.keeps (Keeps.grown (World.grownBy_alloc w3 (.cells #[.int .i64 x0,.int .i64 x1,.string x2,.slice A x3 c9,.slice K x4 d9] 27) none) (fun b _ e=>by cases e)) (fun _ h _=>h) _ _ HX3.out) hgrow5 rfl hown5 (hat5.imp_right (fun h=>by first|exact Nat.le_of_eq h.symm|(simp at h⊢;omega))))
      have hb13'':=(hb13'.grownN (World.grownBy_alloc w3 (.cells #[.int .i64 x0,.int .i64 x1,.string x2,.slice A x3 c9,.slice K x4 d9] 27) none)).grown hgrow5 (zhm (fun k hk=>(HL.out.lt k hk).1) (by omega))
      have i3:w5.cell? ⟨W.heap.size+1,3,none⟩=some vL:=hb13''.cell 3
      have i4:=hb13''.frozen 3
      clear hown5 hgrow5 hat5 hlt5 H4 hb13''
      by_cases h44:c2=44
      ·obtain⟨g1,g2⟩:=zbl h44
       have HR:Hid (zbX (strL s) val i left=zas (strL s) val false f false p n [] (vs++[x])):=Lib.hid (HIT2.out.trans (if_neg (fun h=>h.1 h44)))
       clear h44 HIT2
       go_wp2_with(go_at_call 127;(with_reducible refine(HC2.out _).mono ?_);rintro e w' ⟨rfl,rfl⟩)
       go_roundw
       case rel=>exact⟨p,f,n,false,vs++[x],_,_,rfl,rfl,rfl,p1,by omega,n0,n1,by rw[List.length_append];simp;omega,HR.out,HI2.out⟩
       case measure=>simp[intOf];omega
      ·obtain⟨g1,g2⟩:=zbd h44
       by_cases h93:c2=93
       ·obtain⟨g3,g4⟩:=zbl h93
        have HR:Hid (zbX (strL s) val i left=zas (strL s) val false f false p n [] (vs++[x])):=Lib.hid (HIT2.out.trans (if_neg (fun h=>h.2 h93)))
        clear h44 h93 HIT2
        go_wp2_with(go_at_call 127;(with_reducible refine(HC2.out _).mono ?_);rintro e w' ⟨rfl,rfl⟩)
        go_roundw
        case rel=>exact⟨p,f,n,false,vs++[x],_,_,rfl,rfl,rfl,p1,by omega,n0,n1,by rw[List.length_append];simp;omega,HR.out,HI2.out⟩
        case measure=>simp[intOf];omega
       ·obtain⟨g3,g4⟩:=zbd h93
        have HR:Hid (zbX (strL s) val i left=(zeroJ,p,n,50)):=Lib.hid (HIT2.out.trans (if_pos ⟨h44,h93⟩))
        clear h44 h93 HIT2
        go_wp2_with(first|(go_at_call 127;(with_reducible refine(HC2.out _).mono ?_);rintro e w' ⟨rfl,rfl⟩)|(refine zaQ rfl none rfl _ (.tmp 8) _ rfl W.heap.size 0 [.int .i64 0,.int .i64 0,.string ⟨#[]⟩,.slice none 0 0,.slice none 0 0] rfl rfl _ _ HI2.out.1 (by simp[zeros5]) zaa (by intro v hv;simp at hv;rcases hv with rfl|rfl|rfl|rfl|rfl<;>rfl) ?_;intro w9 hb9 hgr;rw[zaW _ _ (by simp[zeros5])]at hb9;have HB9:=Lib.hid (Below.grown HI2.out.2.2.2.2.1 hgr (Below.size HI2.out.2.2.2.2.1) (by intro k hk;injection hk with hk;omega));have HG9:=Lib.hid hgr;clear hgr;try go_frame))
        refine bodyPost_ret (v:= .tuple #[.agg #[.int .i64 0,.int .i64 0,.string ⟨#[]⟩,.slice none 0 0,.slice none 0 0],.int .i64 (p:Int),.int .i64 n,.int .i64 50]) (zak Tryz.results132 _ _ W.heap.size _ [.int .i64 0,.int .i64 0,.string ⟨#[]⟩,.slice none 0 0,.slice none 0 0] _ rfl hb9 Tryz.underlying27 rfl zaa) rfl ?_
        rw[HR.out]
        exact⟨_,rfl,RepS.zero _ _,HB9.out⟩
     ·have HR:Hid (zbX (strL s) val i left=(zeroJ,p,n,er)):=Lib.hid (HIT.out.trans (if_pos he))
      obtain⟨e1,e2⟩:=zbd he
      clear he hmv HIT
      go_wp2_with(first|(go_at_call 127;(with_reducible refine(HC.out _).mono ?_);rintro e w' ⟨rfl,rfl⟩)|(go_at_call 95;(with_reducible refine(HSK2.out _).mono ?_);rintro e w' ⟨rfl,rfl⟩)|(go_at_call 94;(with_reducible refine(HVC.out _).mono ?_);rintro e w1 ⟨v,rfl,hrep,hbv⟩;obtain⟨vk,A,c9,rfl,_,⟨K,d9,rfl,_,_⟩,_,_⟩:=hrep.open;obtain⟨x0,hx0⟩: ∃a,a=x.kind:=⟨_,rfl⟩;obtain⟨x1,hx1⟩: ∃a,a=x.n:=⟨_,rfl⟩;obtain⟨x2,hx2⟩: ∃a,a=x.s:=⟨_,rfl⟩;obtain⟨x3,hx3⟩: ∃a,a=x.l.length:=⟨_,rfl⟩;obtain⟨x4,hx4⟩: ∃a,a=x.k.length:=⟨_,rfl⟩;rw[←hx0,←hx1,←hx2,←hx3,←hx4]at hrep⊢;have HREP:=Lib.hid hrep;have HBV:=Lib.hid hbv;clear hrep hx0 hx1 hx2 hx3 hx4 hbv)|(refine zaK rfl (some 21) rfl _ rfl _ zdY ?_;intro g21 w2 hg21 hb21 hgr2;have HG2:=Lib.hid hgr2;have HG21:=Lib.hid hg21;clear hgr2 hg21;try go_frame)|(refine zaQ rfl none rfl _ (.tmp 21) _ rfl g21 0 [.int .i64 x0,.int .i64 x1,.string x2,.slice A x3 c9,.slice K x4 d9] rfl rfl _ _ hb21 (by simp[zeros5]) zaa (by intro v hv;simp at hv;rcases hv with rfl|rfl|rfl|rfl|rfl<;>rfl) ?_;intro w3 hb21' hgr3;rw[zaW _ _ (by simp[zeros5])]at hb21';have HW3:=Lib.hid (zao HBV.out HG2.out HG21.out hgr3);have HX3:=Lib.hid (RepS.keeps (zca HG2.out HG21.out hgr3) (fun _ h _=>h) _ _ HREP.out);clear hgr3;have hb8':=Blk.below hb8 HW3.out hb8.lt;have hb13':=Blk.below hb13 HW3.out hb13.lt;have HB3:=Lib.hid (HB.out.trans (HW3.out.mono HB.out.size));try go_frame)|(refine zaQ rfl none rfl _ (.tmp 8) _ rfl W.heap.size 0 [.int .i64 0,.int .i64 0,.string ⟨#[]⟩,.slice none 0 0,.slice none 0 0] rfl rfl _ _ hb8' (by simp[zeros5]) zaa (by intro v hv;simp at hv;rcases hv with rfl|rfl|rfl|rfl|rfl<;>rfl) ?_;intro w9 hb9 hgr;rw[zaW _ _ (by simp[zeros5])]at hb9;have HB9:=Lib.hid (Below.grown HB3.out hgr (Below.size HB3.out) (by intro k hk;injection hk with hk;omega));have HG9:=Lib.hid hgr;clear hgr;try go_frame))
      refine bodyPost_ret (v:= .tuple #[.agg #[.int .i64 0,.int .i64 0,.string ⟨#[]⟩,.slice none 0 0,.slice none 0 0],.int .i64 (p:Int),.int .i64 n,.int .i64 er]) (zak Tryz.results132 _ _ W.heap.size _ [.int .i64 0,.int .i64 0,.string ⟨#[]⟩,.slice none 0 0,.slice none 0 0] _ rfl hb9 Tryz.underlying27 rfl zaa) rfl ?_
      rw[HR.out]
      exact⟨_,rfl,RepS.zero _ _,HB9.out⟩
    ·have HR:Hid (zbX (strL s) val i left=(zeroJ,k,lf,50)):=Lib.hid (HGO.out.trans ((if_neg (by decide)).trans (if_pos hcm)))
     obtain⟨m1,m2⟩:=zbd hcm
     clear HGO hcm
     go_wp2_with(first|(go_at_call 127;(with_reducible refine(HC.out _).mono ?_);rintro e w' ⟨rfl,rfl⟩)|(refine zaQ rfl none rfl _ (.tmp 8) _ rfl W.heap.size 0 [.int .i64 0,.int .i64 0,.string ⟨#[]⟩,.slice none 0 0,.slice none 0 0] rfl rfl _ _ hb8 (by simp[zeros5]) zaa (by intro v hv;simp at hv;rcases hv with rfl|rfl|rfl|rfl|rfl<;>rfl) ?_;intro w9 hb9 hgr;rw[zaW _ _ (by simp[zeros5])]at hb9;have HB9:=Lib.hid (Below.grown HB.out hgr (Below.size HB.out) (by intro k hk;injection hk with hk;omega));have HG9:=Lib.hid hgr;clear hgr;try go_frame))
     refine bodyPost_ret (v:= .tuple #[.agg #[.int .i64 0,.int .i64 0,.string ⟨#[]⟩,.slice none 0 0,.slice none 0 0],.int .i64 (k:Int),.int .i64 lf,.int .i64 50]) (zak Tryz.results132 _ _ W.heap.size _ [.int .i64 0,.int .i64 0,.string ⟨#[]⟩,.slice none 0 0,.slice none 0 0] _ rfl hb9 Tryz.underlying27 rfl zaa) rfl ?_
     rw[HR.out]
     exact⟨_,rfl,RepS.zero _ _,HB9.out⟩
theorem zec {P:Program} {fn:Func} {p u1 u2:Tmp} {ty:TypeId} (h:fn.results= #[.cell p ty,.tmp u1,.tmp u2]) (tmps:Array Value) (w:World) (g:Nat) (t:TypeId) (cs:List Value) (de:TypeDesc)
  (hp:tmps.getD p undef= .pointer (some ⟨g,0,none⟩)) (hb:Blk w g t cs)
  (hu:P.underlying ty=some de) (hd:de.isRow=true) (hi:(P.info? ty).map (·.size)=some cs.length):
  (results fn tmps).run P w= .ok (.tuple #[.agg cs.toArray,tmps.getD u1 undef,tmps.getD u2 undef]) w:=by
 have hp':tmps[p]?.getD undef= .pointer (some ⟨g,0,none⟩):=by simpa using hp
 have hl:=run_loadVar_row w g t ty cs.toArray (0,0) de hb hu (by cases de<;>first|rfl|cases hd) (by simpa using hi)
 simp only[results,h]
 simp[Sem.run_bind,Result.andThen,hp',asAddr,hl]
def zml (W:World) (r:J×Int×Int) (e:Ending) (w':World):Prop:=
 ∃v,e= .returned (.tuple #[v,.int .i64 r.2.1,.int .i64 r.2.2])∧RepS w' (fun b=>W.heap.size≤b) r.1 v∧Below W.heap.size W w'
theorem refParse_of (s:ByteArray) (W:World) (hs:s.size≤9223372036854775807) (hv:s.size≤4096→ ∀W:World,Calls Tryz.prog 94 #[.string s,.int .i64 (zaY (strL s) 0:Nat),.int .i64 1,.int .i64 256] W (zbp W (zag (strL s) 8 (zaY (strL s) 0) 256))):
  Calls Tryz.prog 66 #[.string s] W (zml W (zed (strL s))):=by
 have HLEN:=Lib.hid (zaX s)
 by_cases h:4096<s.size
 ·have HR:Hid (zed (strL s)=(zeroJ,2, -1)):=Lib.hid (by unfold zed;rw[if_pos (by rw[HLEN.out];exact h)])
  have hI:(4096:Int)<(s.size:Int):=by omega
  clear hv h
  go_enter Tryz.func66,Tryz.ntmps66
  go_wp2_with(first|(refine zaK rfl (some 2) rfl _ rfl _ zdY ?_;intro g2 wr hg2 hb2 hgr2;have HB:=Lib.hid ((Below.refl _ W).grown hgr2 (Nat.le_refl _) (by simp));have HG2:=Lib.hid hg2;clear hgr2 hg2;try go_frame)|(refine zaQ rfl none rfl _ (.tmp 2) _ rfl g2 0 [.int .i64 0,.int .i64 0,.string ⟨#[]⟩,.slice none 0 0,.slice none 0 0] rfl rfl _ _ hb2 (by simp[zeros5]) zaa (by intro v hv;simp at hv;rcases hv with rfl|rfl|rfl|rfl|rfl<;>rfl) ?_;intro w9 hb9 hgr;rw[zaW _ _ (by simp[zeros5])]at hb9;have HB9:=Lib.hid (Below.grown HB.out hgr (Below.size HB.out) (by intro k hk;injection hk with hk;have:=HG2.out;omega));have HG9:=Lib.hid hgr;clear hgr;try go_frame))
  refine bodyPost_ret (v:= .tuple #[.agg #[.int .i64 0,.int .i64 0,.string ⟨#[]⟩,.slice none 0 0,.slice none 0 0],.int .i64 2,.int .i64 (-1)]) (zec Tryz.results66 _ _ g2 _ [.int .i64 0,.int .i64 0,.string ⟨#[]⟩,.slice none 0 0,.slice none 0 0] _ rfl hb9 Tryz.underlying27 rfl zaa) rfl ?_
  rw[HR.out]
  exact⟨_,rfl,RepS.zero _ _,HB9.out⟩
 ·have HS:=Lib.hid (fun W:World=>zcf s 0 0 W rfl (by omega) (by omega))
  have HVC:=Lib.hid (hv (by omega))
  have hI: ¬(4096:Int)<(s.size:Int):=by omega
  have HP:Hid (zed (strL s)=if(zag (strL s) 8 (zaY (strL s) 0) 256).2.2.2≠0 then(zeroJ,(zag (strL s) 8 (zaY (strL s) 0) 256).2.2.2,((zag (strL s) 8 (zaY (strL s) 0) 256).2.1:Int))else if(zag (strL s) 8 (zaY (strL s) 0) 256).2.1<s.size then(zeroJ,50,((zag (strL s) 8 (zaY (strL s) 0) 256).2.1:Int))else((zag (strL s) 8 (zaY (strL s) 0) 256).1,0, -1)):=Lib.hid (by
   unfold zed;rw[if_neg (by rw[HLEN.out];exact h),HLEN.out])
  obtain⟨k0,hk0⟩: ∃k,k=zaY (strL s) 0:=⟨_,rfl⟩
  rw[←hk0]at HS HVC HP
  obtain⟨r,hr⟩: ∃r,r=zag (strL s) 8 k0 256:=⟨_,rfl⟩
  rw[←hr]at HVC HP
  obtain⟨x,p,n,er⟩:=r
  clear hv h hk0 hr
  by_cases he:er=0
  ·have HP2:Hid (zed (strL s)=if p<s.size then(zeroJ,50,(p:Int))else(x,0, -1)):=Lib.hid (HP.out.trans (if_neg (fun h=>h he)))
   obtain⟨e1,e2⟩:=zbl he
   clear HP
   by_cases hp:p<s.size
   ·have HR:Hid (zed (strL s)=(zeroJ,50,(p:Int))):=Lib.hid (HP2.out.trans (if_pos hp))
    clear HP2
    go_enter Tryz.func66,Tryz.ntmps66
    go_wp2_with(first|(refine zaK rfl (some 2) rfl _ rfl _ zdY ?_;intro g2 wr hg2 hb2 hgr2;have HB:=Lib.hid ((Below.refl _ W).grown hgr2 (Nat.le_refl _) (by simp));have HG2:=Lib.hid hg2;clear hgr2 hg2;try go_frame)|(go_at_call 95;(with_reducible refine(HS.out _).mono ?_);rintro e w' ⟨rfl,rfl⟩)|(go_at_call 94;(with_reducible refine(HVC.out _).mono ?_);rintro e w1 ⟨v,rfl,hrep,hbv⟩;obtain⟨vk,A,c9,rfl,_,⟨K,d9,rfl,_,_⟩,_,_⟩:=hrep.open;obtain⟨x0,hx0⟩: ∃a,a=x.kind:=⟨_,rfl⟩;obtain⟨x1,hx1⟩: ∃a,a=x.n:=⟨_,rfl⟩;obtain⟨x2,hx2⟩: ∃a,a=x.s:=⟨_,rfl⟩;obtain⟨x3,hx3⟩: ∃a,a=x.l.length:=⟨_,rfl⟩;obtain⟨x4,hx4⟩: ∃a,a=x.k.length:=⟨_,rfl⟩;rw[←hx0,←hx1,←hx2,←hx3,←hx4]at hrep⊢;have HREP:=Lib.hid hrep;have HBV:=Lib.hid hbv;clear hrep hx0 hx1 hx2 hx3 hx4 hbv)|(refine zaK rfl (some 5) rfl _ rfl _ zdY ?_;intro g21 w2 hg21 hb21 hgr2;have HGA:=Lib.hid hgr2;have HG21:=Lib.hid hg21;clear hgr2 hg21;try go_frame)|(refine zaQ rfl none rfl _ (.tmp 5) _ rfl g21 0 [.int .i64 x0,.int .i64 x1,.string x2,.slice A x3 c9,.slice K x4 d9] rfl rfl _ _ hb21 (by simp[zeros5]) zaa (by intro v hv;simp at hv;rcases hv with rfl|rfl|rfl|rfl|rfl<;>rfl) ?_;intro w3 hb21' hgr3;rw[zaW _ _ (by simp[zeros5])]at hb21';have HW3:=Lib.hid (zao HBV.out HGA.out HG21.out hgr3);have HX3:=Lib.hid (RepS.keeps (zca HGA.out HG21.out hgr3) (fun _ h _=>h) _ _ HREP.out);clear hgr3;have hb2':=Blk.below hb2 HW3.out hb2.lt;have HB3:=Lib.hid (HB.out.trans (HW3.out.mono HB.out.size));obtain⟨d0,d1,d2,d3,d4⟩:w3.cell? ⟨g21,0,none⟩=some (.int .i64 x0)∧w3.cell? ⟨g21,1,none⟩=some (.int .i64 x1)∧w3.cell? ⟨g21,2,none⟩=some (.string x2)∧w3.cell? ⟨g21,3,none⟩=some (.slice A x3 c9)∧w3.cell? ⟨g21,4,none⟩=some (.slice K x4 d9):=⟨hb21'.cell 0,hb21'.cell 1,hb21'.cell 2,hb21'.cell 3,hb21'.cell 4⟩;try go_frame)|(refine zaQ rfl none rfl _ (.tmp 2) _ rfl g2 0 [.int .i64 0,.int .i64 0,.string ⟨#[]⟩,.slice none 0 0,.slice none 0 0] rfl rfl _ _ hb2' (by simp[zeros5]) zaa (by intro v hv;simp at hv;rcases hv with rfl|rfl|rfl|rfl|rfl<;>rfl) ?_;intro w9 hb9 hgr;rw[zaW _ _ (by simp[zeros5])]at hb9;have HB9:=Lib.hid (Below.grown HB3.out hgr (Below.size HB3.out) (by intro k hk;injection hk with hk;have:=HG2.out;omega));have HG9:=Lib.hid hgr;clear hgr;try go_frame))
    refine bodyPost_ret (v:= .tuple #[.agg #[.int .i64 0,.int .i64 0,.string ⟨#[]⟩,.slice none 0 0,.slice none 0 0],.int .i64 50,.int .i64 (p:Int)]) (zec Tryz.results66 _ _ g2 _ [.int .i64 0,.int .i64 0,.string ⟨#[]⟩,.slice none 0 0,.slice none 0 0] _ rfl hb9 Tryz.underlying27 rfl zaa) rfl ?_
    rw[HR.out]
    exact⟨_,rfl,RepS.zero _ _,HB9.out⟩
   ·have HR:Hid (zed (strL s)=(x,0, -1)):=Lib.hid (HP2.out.trans (if_neg hp))
    clear HP2
    go_enter Tryz.func66,Tryz.ntmps66
    go_wp2_with(first|(refine zaK rfl (some 2) rfl _ rfl _ zdY ?_;intro g2 wr hg2 hb2 hgr2;have HB:=Lib.hid ((Below.refl _ W).grown hgr2 (Nat.le_refl _) (by simp));have HG2:=Lib.hid hg2;clear hgr2 hg2;try go_frame)|(go_at_call 95;(with_reducible refine(HS.out _).mono ?_);rintro e w' ⟨rfl,rfl⟩)|(go_at_call 94;(with_reducible refine(HVC.out _).mono ?_);rintro e w1 ⟨v,rfl,hrep,hbv⟩;obtain⟨vk,A,c9,rfl,_,⟨K,d9,rfl,_,_⟩,_,_⟩:=hrep.open;obtain⟨x0,hx0⟩: ∃a,a=x.kind:=⟨_,rfl⟩;obtain⟨x1,hx1⟩: ∃a,a=x.n:=⟨_,rfl⟩;obtain⟨x2,hx2⟩: ∃a,a=x.s:=⟨_,rfl⟩;obtain⟨x3,hx3⟩: ∃a,a=x.l.length:=⟨_,rfl⟩;obtain⟨x4,hx4⟩: ∃a,a=x.k.length:=⟨_,rfl⟩;rw[←hx0,←hx1,←hx2,←hx3,←hx4]at hrep⊢;have HREP:=Lib.hid hrep;have HBV:=Lib.hid hbv;clear hrep hx0 hx1 hx2 hx3 hx4 hbv)|(refine zaK rfl (some 5) rfl _ rfl _ zdY ?_;intro g21 w2 hg21 hb21 hgr2;have HGA:=Lib.hid hgr2;have HG21:=Lib.hid hg21;clear hgr2 hg21;try go_frame)|(refine zaQ rfl none rfl _ (.tmp 5) _ rfl g21 0 [.int .i64 x0,.int .i64 x1,.string x2,.slice A x3 c9,.slice K x4 d9] rfl rfl _ _ hb21 (by simp[zeros5]) zaa (by intro v hv;simp at hv;rcases hv with rfl|rfl|rfl|rfl|rfl<;>rfl) ?_;intro w3 hb21' hgr3;rw[zaW _ _ (by simp[zeros5])]at hb21';have HW3:=Lib.hid (zao HBV.out HGA.out HG21.out hgr3);have HX3:=Lib.hid (RepS.keeps (zca HGA.out HG21.out hgr3) (fun _ h _=>h) _ _ HREP.out);clear hgr3;have hb2':=Blk.below hb2 HW3.out hb2.lt;have HB3:=Lib.hid (HB.out.trans (HW3.out.mono HB.out.size));obtain⟨d0,d1,d2,d3,d4⟩:w3.cell? ⟨g21,0,none⟩=some (.int .i64 x0)∧w3.cell? ⟨g21,1,none⟩=some (.int .i64 x1)∧w3.cell? ⟨g21,2,none⟩=some (.string x2)∧w3.cell? ⟨g21,3,none⟩=some (.slice A x3 c9)∧w3.cell? ⟨g21,4,none⟩=some (.slice K x4 d9):=⟨hb21'.cell 0,hb21'.cell 1,hb21'.cell 2,hb21'.cell 3,hb21'.cell 4⟩;try go_frame)|(refine zaQ rfl none rfl _ (.tmp 2) _ rfl g2 0 [.int .i64 x0,.int .i64 x1,.string x2,.slice A x3 c9,.slice K x4 d9] rfl rfl _ _ hb2' (by simp[zeros5]) zaa (by intro v hv;simp at hv;rcases hv with rfl|rfl|rfl|rfl|rfl<;>rfl) ?_;intro w9 hb9 hgr;rw[zaW _ _ (by simp[zeros5])]at hb9;have HB9:=Lib.hid (Below.grown HB3.out hgr (Below.size HB3.out) (by intro k hk;injection hk with hk;have:=HG2.out;omega));have HG9:=Lib.hid hgr;clear hgr;try go_frame))
    refine bodyPost_ret (v:= .tuple #[.agg #[.int .i64 x0,.int .i64 x1,.string x2,.slice A x3 c9,.slice K x4 d9],.int .i64 0,.int .i64 (-1)]) (zec Tryz.results66 _ _ g2 _ [.int .i64 x0,.int .i64 x1,.string x2,.slice A x3 c9,.slice K x4 d9] _ rfl hb9 Tryz.underlying27 rfl zaa) rfl ?_
    rw[HR.out]
    exact⟨_,rfl,RepS.keeps (Keeps.grown HG9.out (fun b h e=>by injection e with e;have:=hb2.lt;replace h:wr.heap.size≤b:=h;omega)) (fun b h _=>by have:=HB.out.size;replace h:wr.heap.size≤b:=h;show W.heap.size≤b;omega) _ _ HX3.out,HB9.out⟩
  ·have HR:Hid (zed (strL s)=(zeroJ,er,(p:Int))):=Lib.hid (HP.out.trans (if_pos he))
   obtain⟨e1,e2⟩:=zbd he
   clear HP he
   go_enter Tryz.func66,Tryz.ntmps66
   go_wp2_with(first|(refine zaK rfl (some 2) rfl _ rfl _ zdY ?_;intro g2 wr hg2 hb2 hgr2;have HB:=Lib.hid ((Below.refl _ W).grown hgr2 (Nat.le_refl _) (by simp));have HG2:=Lib.hid hg2;clear hgr2 hg2;try go_frame)|(go_at_call 95;(with_reducible refine(HS.out _).mono ?_);rintro e w' ⟨rfl,rfl⟩)|(go_at_call 94;(with_reducible refine(HVC.out _).mono ?_);rintro e w1 ⟨v,rfl,hrep,hbv⟩;obtain⟨vk,A,c9,rfl,_,⟨K,d9,rfl,_,_⟩,_,_⟩:=hrep.open;obtain⟨x0,hx0⟩: ∃a,a=x.kind:=⟨_,rfl⟩;obtain⟨x1,hx1⟩: ∃a,a=x.n:=⟨_,rfl⟩;obtain⟨x2,hx2⟩: ∃a,a=x.s:=⟨_,rfl⟩;obtain⟨x3,hx3⟩: ∃a,a=x.l.length:=⟨_,rfl⟩;obtain⟨x4,hx4⟩: ∃a,a=x.k.length:=⟨_,rfl⟩;rw[←hx0,←hx1,←hx2,←hx3,←hx4]at hrep⊢;have HREP:=Lib.hid hrep;have HBV:=Lib.hid hbv;clear hrep hx0 hx1 hx2 hx3 hx4 hbv)|(refine zaK rfl (some 5) rfl _ rfl _ zdY ?_;intro g21 w2 hg21 hb21 hgr2;have HGA:=Lib.hid hgr2;have HG21:=Lib.hid hg21;clear hgr2 hg21;try go_frame)|(refine zaQ rfl none rfl _ (.tmp 5) _ rfl g21 0 [.int .i64 x0,.int .i64 x1,.string x2,.slice A x3 c9,.slice K x4 d9] rfl rfl _ _ hb21 (by simp[zeros5]) zaa (by intro v hv;simp at hv;rcases hv with rfl|rfl|rfl|rfl|rfl<;>rfl) ?_;intro w3 hb21' hgr3;rw[zaW _ _ (by simp[zeros5])]at hb21';have HW3:=Lib.hid (zao HBV.out HGA.out HG21.out hgr3);have HX3:=Lib.hid (RepS.keeps (zca HGA.out HG21.out hgr3) (fun _ h _=>h) _ _ HREP.out);clear hgr3;have hb2':=Blk.below hb2 HW3.out hb2.lt;have HB3:=Lib.hid (HB.out.trans (HW3.out.mono HB.out.size));obtain⟨d0,d1,d2,d3,d4⟩:w3.cell? ⟨g21,0,none⟩=some (.int .i64 x0)∧w3.cell? ⟨g21,1,none⟩=some (.int .i64 x1)∧w3.cell? ⟨g21,2,none⟩=some (.string x2)∧w3.cell? ⟨g21,3,none⟩=some (.slice A x3 c9)∧w3.cell? ⟨g21,4,none⟩=some (.slice K x4 d9):=⟨hb21'.cell 0,hb21'.cell 1,hb21'.cell 2,hb21'.cell 3,hb21'.cell 4⟩;try go_frame)|(refine zaQ rfl none rfl _ (.tmp 2) _ rfl g2 0 [.int .i64 0,.int .i64 0,.string ⟨#[]⟩,.slice none 0 0,.slice none 0 0] rfl rfl _ _ hb2' (by simp[zeros5]) zaa (by intro v hv;simp at hv;rcases hv with rfl|rfl|rfl|rfl|rfl<;>rfl) ?_;intro w9 hb9 hgr;rw[zaW _ _ (by simp[zeros5])]at hb9;have HB9:=Lib.hid (Below.grown HB3.out hgr (Below.size HB3.out) (by intro k hk;injection hk with hk;have:=HG2.out;omega));have HG9:=Lib.hid hgr;clear hgr;try go_frame))
   refine bodyPost_ret (v:= .tuple #[.agg #[.int .i64 0,.int .i64 0,.string ⟨#[]⟩,.slice none 0 0,.slice none 0 0],.int .i64 er,.int .i64 (p:Int)]) (zec Tryz.results66 _ _ g2 _ [.int .i64 0,.int .i64 0,.string ⟨#[]⟩,.slice none 0 0,.slice none 0 0] _ rfl hb9 Tryz.underlying27 rfl zaa) rfl ?_
   rw[HR.out]
   exact⟨_,rfl,RepS.zero _ _,HB9.out⟩
theorem infoS:(Tryz.prog.info? 9).map (fun i=>(i.zero,i.size,i.bytes))=some (some (.string ⟨#[]⟩),1,16):=by kernel_rfl
theorem infoJ:(Tryz.prog.info? 27).map (fun i=>(i.zero,i.size,i.bytes))=some (some (.agg #[.int .i64 0,.int .i64 0,.string ⟨#[]⟩,.slice none 0 0,.slice none 0 0]),5,80):=by kernel_rfl
theorem own_apart {w:World} {b b':Nat} {e e':TypeId} {s s' n n':Nat} {v v':Value} {xs xs':List Value} (h:w.ownsRow b e s v n xs) (h':w.ownsRow b' e' s' v' n' xs') (hne:e≠e'): ∀g,v.ownBlock=some g→v'.ownBlock≠some g:=fun g hg hg'=>by
 rcases h.2 with⟨rfl,_⟩|⟨g1,_,_,rfl,_,h1,_⟩
 ·simp[Value.ownBlock]at hg
 ·rcases h'.2 with⟨rfl,_⟩|⟨g2,_,_,rfl,_,h2,_⟩
  ·simp[Value.ownBlock]at hg'
  ·have e1:g1=g:=by simpa[Value.ownBlock]using hg
   have e2:g2=g:=by simpa[Value.ownBlock]using hg'
   subst e1
   subst e2
   rw[h1]at h2
   injection h2 with h2
   injection h2 with _ h2 _
   exact hne h2
def PutInv (W wr:World) (c3 c5:List Value) (S:Nat→Prop) (vs:List J) (xs:List Value) (vL:Value) (ks:List ByteArray) (vK:Value):Prop:=
 (Blk wr W.heap.size 27 c3∧Blk wr (W.heap.size+1) 27 c5∧Blk wr (W.heap.size+2) 27 zeros5∧Blk wr (W.heap.size+3) 27 [.int .i64 5,.int .i64 0,.string ⟨#[]⟩,vL,vK])∧
 (wr.ownsRow (W.heap.size+4) 27 5 vL vs.length xs∧FlatJ wr S vs xs)∧wr.ownsRow (W.heap.size+4) 9 1 vK ks.length (ks.map Value.string)∧Below W.heap.size W wr∧W.heap.size+4≤wr.heap.size
theorem zjW {v:Value} {a B:Nat} (h: ∀k,v.ownBlock=some k→B≤k) (ha:a<B):some a≠v.ownBlock:=fun e=>by
 have:=h a e.symm;omega
theorem PutInv.addK {W wr wa wb:World} {c3 c5:List Value} {S:Nat→Prop} {vs:List J} {xs:List Value} {vL vK v':Value} {ks:List ByteArray} {u:ByteArray} (hI:PutInv W wr c3 c5 S vs xs vL ks vK) (hS: ∀b,S b→b<W.heap.size) (hA:wr.grownBy wa none) (hB:wa.grownBy wb vK.ownBlock)
  {m:Nat} (hm:m=ks.length+1) (hown:wb.ownsRow (W.heap.size+4) 9 1 v' m (ks.map Value.string++[.string u])):
  PutInv W (wb.setCell ⟨W.heap.size+3,4,none⟩ v') c3 c5 S vs xs vL (ks++[u]) v':=by
 subst hm
 obtain⟨⟨h3,h5,h6,h7⟩,⟨hL,hf⟩,hK,hb,hsz⟩:=hI
 have lK:=fun k hk=>(hK.lt k hk).1
 have lL:=fun k hk=>(hL.lt k hk).1
 have l':=fun k hk=>(hown.lt k hk).1
 have hC:=zaV wb (W.heap.size+3) 4 v'
 have g1: ∀{g:Nat} {t:TypeId} {cs:List Value},Blk wr g t cs→g<W.heap.size+4→g≠W.heap.size+3→Blk (wb.setCell ⟨W.heap.size+3,4,none⟩ v') g t cs:=fun h hg hne=>
  ((h.grownN hA).grown hB (zjW lK hg)).grown hC (by simpa using hne)
 have hb1:Below W.heap.size W wb:=(hb.grown hA hb.size (by simp)).grown hB (Nat.le_trans hb.size hA.size) (fun k hk=>by have:=lK k hk;omega)
 have hb2:Below W.heap.size W (wb.setCell ⟨W.heap.size+3,4,none⟩ v'):=hb1.grown hC hb1.size (by simp)
 have hL1:=((hL.kept hA (by cases hv:vL.ownBlock<;>simp)).kept hB (by
  cases hv:vL.ownBlock with
  |none=>exact .inl rfl
  |some g=>exact .inr (fun e=>own_apart hL hK (by decide) g hv e.symm)))
 refine⟨⟨g1 h3 (by omega) (by omega),g1 h5 (by omega) (by omega),g1 h6 (by omega) (by omega),?_⟩,⟨?_,?_⟩,?_,hb2,?_⟩
 ·have:=((h7.grownN hA).grown hB (zjW lK (by omega))).setCell 4 v'
  exact this
 ·refine hL1.kept hC ?_
  cases hv:vL.ownBlock with
  |none=>exact .inl rfl
  |some g=>exact .inr (fun e=>by injection e with e;have:=lL g hv;omega)
 ·refine hf.keeps (S:=S) (T:=S) ⟨?_,fun b hS' _=> ?_⟩ (fun _ h _=>h)
  ·exact Nat.le_trans hA.size (Nat.le_trans hB.size hC.size)
  ·have h1:=hS b hS'
   exact(hb2.block b h1).trans (hb.block b h1).symm
 ·rw[List.length_append,List.map_append]
  refine World.ownsRow.kept hown hC ?_
  cases hv:v'.ownBlock with
  |none=>exact .inl rfl
  |some g=>exact .inr (fun e=>by injection e with e;have:=l' g hv;omega)
 ·exact Nat.le_trans hsz (Nat.le_trans hA.size (Nat.le_trans hB.size hC.size))
theorem PutInv.addL {W wr wa wb:World} {c3 c5:List Value} {S:Nat→Prop} {vs:List J} {xs:List Value} {vL vK v':Value} {ks:List ByteArray} {x:J} {a0 a1 a2 a3 a4:Value} (hI:PutInv W wr c3 c5 S vs xs vL ks vK) (hS: ∀b,S b→b<W.heap.size) (hA:wr.grownBy wa none) (hB:wa.grownBy wb vL.ownBlock)
  {m:Nat} (hm:m=vs.length+1) (hown:wb.ownsRow (W.heap.size+4) 27 5 v' m (xs++[a0,a1,a2,a3,a4])) (hx:RepS W S x (.agg #[a0,a1,a2,a3,a4])):
  PutInv W (wb.setCell ⟨W.heap.size+3,3,none⟩ v') c3 c5 S (vs++[x]) (xs++[a0,a1,a2,a3,a4]) v' ks vK:=by
 subst hm
 obtain⟨⟨h3,h5,h6,h7⟩,⟨hL,hf⟩,hK,hb,hsz⟩:=hI
 have lK:=fun k hk=>(hK.lt k hk).1
 have lL:=fun k hk=>(hL.lt k hk).1
 have l':=fun k hk=>(hown.lt k hk).1
 have hC:=zaV wb (W.heap.size+3) 3 v'
 have g1: ∀{g:Nat} {t:TypeId} {cs:List Value},Blk wr g t cs→g<W.heap.size+4→g≠W.heap.size+3→Blk (wb.setCell ⟨W.heap.size+3,3,none⟩ v') g t cs:=fun h hg hne=>
  ((h.grownN hA).grown hB (zjW lL hg)).grown hC (by simpa using hne)
 have hb1:Below W.heap.size W wb:=(hb.grown hA hb.size (by simp)).grown hB (Nat.le_trans hb.size hA.size) (fun k hk=>by have:=lL k hk;omega)
 have hb2:Below W.heap.size W (wb.setCell ⟨W.heap.size+3,3,none⟩ v'):=hb1.grown hC hb1.size (by simp)
 have hK1:=((hK.kept hA (by cases hv:vK.ownBlock<;>simp)).kept hB (by
  cases hv:vK.ownBlock with
  |none=>exact .inl rfl
  |some g=>exact .inr (fun e=>own_apart hK hL (by decide) g hv e.symm)))
 have hk:Keeps S wr (wb.setCell ⟨W.heap.size+3,3,none⟩ v'):=⟨Nat.le_trans hA.size (Nat.le_trans hB.size hC.size),fun b hS' _=>(hb2.block b (hS b hS')).trans (hb.block b (hS b hS')).symm⟩
 refine⟨⟨g1 h3 (by omega) (by omega),g1 h5 (by omega) (by omega),g1 h6 (by omega) (by omega),?_⟩,⟨?_,?_⟩,?_,hb2,?_⟩
 ·have:=((h7.grownN hA).grown hB (zjW lL (by omega))).setCell 3 v'
  exact this
 ·rw[List.length_append]
  refine World.ownsRow.kept hown hC ?_
  cases hv:v'.ownBlock with
  |none=>exact .inl rfl
  |some g=>exact .inr (fun e=>by injection e with e;have:=l' g hv;omega)
 ·exact FlatJ.snoc (RepS.keeps ⟨hb2.size,fun b h _=>hb2.block b (hS b h)⟩ (fun _ h _=>h) _ _ hx) (hf.keeps hk (fun _ h _=>h))
 ·refine hK1.kept hC ?_
  cases hv:vK.ownBlock with
  |none=>exact .inl rfl
  |some g=>exact .inr (fun e=>by injection e with e;have:=lK g hv;omega)
 ·exact Nat.le_trans hsz (Nat.le_trans hA.size (Nat.le_trans hB.size hC.size))
theorem zgy {w:World} {n:Nat} (h:w.heap.size=n) (cs:List Value) (t:TypeId):Blk (w.alloc (.cells cs.toArray t)) n t cs:=by
 subst h;exact heap_alloc_new w _
theorem putInv_start (W:World) (c3 c5:List Value) (S:Nat→Prop):
  PutInv W ((((W.alloc (.cells c3.toArray 27)).alloc (.cells c5.toArray 27)).alloc (.cells zeros5.toArray 27)).alloc (.cells #[.int .i64 5,.int .i64 0,.string ⟨#[]⟩,.slice none 0 0,.slice none 0 0] 27)) c3 c5 S [] [] (.slice none 0 0) [] (.slice none 0 0):=by
 refine⟨⟨?_,?_,?_,zgy (by simp) [.int .i64 5,.int .i64 0,.string ⟨#[]⟩,.slice none 0 0,.slice none 0 0] _⟩,⟨World.ownsRow_nil _ _ _ _,rfl⟩,World.ownsRow_nil _ _ _ _,?_,by simp⟩
 ·exact(((zgy rfl c3 _).grownN (World.grownBy_alloc _ _ none)).grownN (World.grownBy_alloc _ _ none)).grownN (World.grownBy_alloc _ _ none)
 ·exact((zgy (by simp) c5 _).grownN (World.grownBy_alloc _ _ none)).grownN (World.grownBy_alloc _ _ none)
 ·exact(zgy (by simp) zeros5 _).grownN (World.grownBy_alloc _ _ none)
 ·exact((((Below.refl _ _).alloc (Nat.le_refl _) _).alloc (by simp) _).alloc (by simp;omega) _).alloc (by simp;omega) _
theorem own_one {w:World} {b:Nat} {e:TypeId} {z n:Nat} {v:Value} {xs:List Value} (h:w.ownsRow b e z v n xs):v.oneCell'=true:=by
 rcases h.2 with⟨rfl,_⟩|⟨g,_,_,rfl,_⟩<;>rfl
structure PutCells (wr:World) (B:Nat) (kd n:Int) (s:ByteArray) (A:Option Addr) (q c:Nat) (K1:Option Addr) (d1:Nat) (x0 x1:Int) (x2:ByteArray) (A':Option Addr) (x3 c':Nat) (K2:Option Addr) (x4 d2:Nat) (vL vK:Value):Prop where
 e33:wr.cell? ⟨B,3,none⟩=some (.slice A q c)
 e34:wr.cell? ⟨B,4,none⟩=some (.slice K1 q d1)
 e50:wr.cell? ⟨B+1,0,none⟩=some (.int .i64 x0)
 e51:wr.cell? ⟨B+1,1,none⟩=some (.int .i64 x1)
 e52:wr.cell? ⟨B+1,2,none⟩=some (.string x2)
 e53:wr.cell? ⟨B+1,3,none⟩=some (.slice A' x3 c')
 e54:wr.cell? ⟨B+1,4,none⟩=some (.slice K2 x4 d2)
 e73:wr.cell? ⟨B+3,3,none⟩=some vL
 e74:wr.cell? ⟨B+3,4,none⟩=some vK
 f73:wr.frozen? ⟨B+3,3,none⟩=false
 f74:wr.frozen? ⟨B+3,4,none⟩=false
theorem PutInv.cells {W wr:World} {kd n x0 x1:Int} {s x2:ByteArray} {A K1 A' K2:Option Addr} {q c d1 x3 c' x4 d2:Nat} {S:Nat→Prop} {vs:List J} {xs:List Value} {vL vK:Value} {ks:List ByteArray}
  (h:PutInv W wr [.int .i64 kd,.int .i64 n,.string s,.slice A q c,.slice K1 q d1] [.int .i64 x0,.int .i64 x1,.string x2,.slice A' x3 c',.slice K2 x4 d2] S vs xs vL ks vK):
  PutCells wr W.heap.size kd n s A q c K1 d1 x0 x1 x2 A' x3 c' K2 x4 d2 vL vK:=by
 obtain⟨⟨h3,h5,h6,h7⟩,_⟩:=h
 exact⟨h3.cell 3,h3.cell 4,h5.cell 0,h5.cell 1,h5.cell 2,h5.cell 3,h5.cell 4,h7.cell 3,h7.cell 4,h7.frozen 3,h7.frozen 4⟩
theorem PutCells.grown {w w':World} {B:Nat} {row:Option Nat} {kd n x0 x1:Int} {s x2:ByteArray} {A K1 A' K2:Option Addr} {q c d1 x3 c' x4 d2:Nat} {vL vK:Value}
  (h:PutCells w B kd n s A q c K1 d1 x0 x1 x2 A' x3 c' K2 x4 d2 vL vK) (hg:w.grownBy w' row) (hr: ∀k,row=some k→B+4≤k):PutCells w' B kd n s A q c K1 d1 x0 x1 x2 A' x3 c' K2 x4 d2 vL vK:=by
 have hne: ∀a,a<B+4→some a≠row:=fun a ha e=>by have:=hr a e.symm;omega
 have g: ∀{a o:Nat} {v:Value},a<B+4→w.cell? ⟨a,o,none⟩=some v→w'.cell? ⟨a,o,none⟩=some v:=fun ha hv=>hg.cell hv (hne _ ha)
 have f: ∀{o:Nat},w.frozen? ⟨B+3,o,none⟩=false→w'.frozen? ⟨B+3,o,none⟩=false:=fun {o} hv=>by
  rw[World.frozen?_of_block (hg.block (B+3) (World.block_lt_of_cell? w ⟨B+3,3,none⟩ h.e73) (hne _ (by omega)))];exact hv
 exact⟨g (by omega) h.e33,g (by omega) h.e34,g (by omega) h.e50,g (by omega) h.e51,g (by omega) h.e52,g (by omega) h.e53,g (by omega) h.e54,g (by omega) h.e73,g (by omega) h.e74,f h.f73,f h.f74⟩
theorem PutInv.tells {W wr w':World} {c3 c5:List Value} {S:Nat→Prop} {vs:List J} {xs:List Value} {vL vK:Value} {ks:List ByteArray} (hI:PutInv W wr c3 c5 S vs xs vL ks vK) (hS: ∀b,S b→b<W.heap.size) (hg:wr.grownBy w' (some (W.heap.size+2)))
  (hv:vs.length≤9223372036854775807) (hk:ks.length≤9223372036854775807) (hks: ∀t∈ks,t.size≤9223372036854775807):
  RepS w' (fun b=>S b∨W.heap.size≤b) (.mk 5 0 ⟨#[]⟩ vs ks) (.agg #[.int .i64 5,.int .i64 0,.string ⟨#[]⟩,vL,vK]):=by
 obtain⟨_,⟨hL,hf⟩,hK,hb,hsz⟩:=hI
 have kept: ∀{v:Value},(∀k,v.ownBlock=some k→W.heap.size+4≤k)→v.ownBlock=none∨v.ownBlock≠some (W.heap.size+2):=fun {v} h=>by
  cases hv:v.ownBlock with
  |none=>exact .inl rfl
  |some g=>exact .inr (fun e=>by injection e with e;have:=h g hv;omega)
 refine RepS.of_rows (hL.kept hg (kept fun k hk=>(hL.lt k hk).1)) (hf.keeps (S:=S) (T:=S) ⟨hg.size,fun b hS' hb'=> ?_⟩ (fun _ h _=>h)) (hK.kept hg (kept fun k hk=>(hK.lt k hk).1)) (fun b h _=> .inl h) (fun b h=> .inr (by omega)) (by decide) hv hk hks
 exact hg.block b hb' (by have:=hS b hS';simp;omega)
theorem zel {w:World} {b:Nat} {e:TypeId} {z n m:Nat} {v:Value} {xs:List Value} (h:w.ownsRow b e z v n xs) (hm:m=n):w.ownsRow b e z v m xs:=by subst hm;exact h
end Go.Proofs.YtjfgmgkhinehaaaGreatDoor
