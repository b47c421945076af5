
import Derived.Test.YtceddodfddlncaaGreatDoorJb29
import Derived.Test.YtceddodfddlncaaGreatDoorJb31
set_option maxRecDepth 100000
set_option maxHeartbeats 16000000
set_option linter.all false
namespace Go.Proofs.YtceddodfddlncaaGreatDoor
open Go Go.RowKit
def OAsk (ms:List (ByteArray×J)):Prop:= ∀(w:World) (vM:Value) (zs:List MC) (S:Nat→Prop),(∀b,S b→b<w.heap.size)→FlatM w S ms zs→RowM w vM zs→
 Calls Tryz.prog 85 #[vM] w (fun e w'=> ∃v',e= .returned v'∧RepS w' (fun b=>w.heap.size≤b) (.mk 5 0 ⟨#[]⟩ (zcx ms).2 (zcx ms).1) v'∧Below w.heap.size w w')
theorem obj_begin (W:World) (rb:Nat) (s:ByteArray) (dep i n:Int) (hr:Rdr W rb s i n):
  OInv W ((((W.alloc (.cells #[.pointer (some ⟨rb,0,none⟩)] 227)).alloc (.cells #[.int .i64 dep] 3)).alloc (.cells zeros5.toArray 63)).alloc (.cells #[.slice none 0 0] 174)) rb s dep [] [] (.slice none 0 0) i n:=by
 have hlt:=hr.lt
 have g1:=World.grownBy_alloc W (.cells #[.pointer (some ⟨rb,0,none⟩)] 227) none
 have g2:=World.grownBy_alloc (W.alloc (.cells #[.pointer (some ⟨rb,0,none⟩)] 227)) (.cells #[.int .i64 dep] 3) none
 have g3:=World.grownBy_alloc ((W.alloc (.cells #[.pointer (some ⟨rb,0,none⟩)] 227)).alloc (.cells #[.int .i64 dep] 3)) (.cells zeros5.toArray 63) none
 have g4:=World.grownBy_alloc (((W.alloc (.cells #[.pointer (some ⟨rb,0,none⟩)] 227)).alloc (.cells #[.int .i64 dep] 3)).alloc (.cells zeros5.toArray 63)) (.cells #[.slice none 0 0] 174) none
 refine⟨?_,?_,?_,?_,World.ownsRow_nil _ _ _ _,rfl,((((g1.trans g2).trans g3).trans g4).but _),hlt,by simp,(((Blk.grownN (Blk.grownN (Blk.grownN (Blk.grownN hr g1) g2) g3) g4)))⟩
 ·exact Blk.grownN (Blk.grownN (Blk.grownN (zck W rfl [.pointer (some ⟨rb,0,none⟩)] _) g2) g3) g4
 ·exact Blk.grownN (Blk.grownN (zck _ (by simp) [.int .i64 dep] _) g3) g4
 ·exact Blk.grownN (zck _ (by simp) zeros5 _) g4
 ·exact zck _ (by simp) [.slice none 0 0] _
theorem object_any (s:ByteArray) (rb d:Nat) (hs:s.size≤10000) (hd:d≤7) (hv:zfu s rb d) (i:Nat) (left:Int) (w:World) (hi:i<s.size) (h0:0≤left) (h1:left≤256) (hr:Rdr w rb s i (256-left)) (hg:GW w rb) (h123:atL (strL s) i=123)
  (ho: ∀j lf ms,(if atL (strL s) (zaW (strL s) (i+1))=125 then .inr (zaW (strL s) (i+1)+1,left,[])else goI (strL s) 125 (zih (strL s) d) (s.size+1) (zaW (strL s) (i+1)) left []:(Nat×Int)⊕(Nat×Int×List (ByteArray×J)))= .inr (j,lf,ms)→OAsk ms):
  Calls Tryz.prog 166 #[.pointer (some ⟨rb,0,none⟩),.int .i64 (8-(d:Int))] w (ValPost w rb s (zfK (strL s) (valueL (strL s) d) i left)):=by
 have HLEN:=Lib.hid (zaQ s)
 have hsame:=many_sameO (strL s) d i left (by rw[HLEN.out];exact hi) h0 h123
 rw[HLEN.out]at hsame
 obtain⟨M,hM⟩: ∃M,M=zfK (strL s) (valueL (strL s) d) i left:=⟨_,rfl⟩
 rw[←hM]at hsame⊢
 obtain⟨r,hrr⟩: ∃r,r=(if atL (strL s) (zaW (strL s) (i+1))=125 then .inr (zaW (strL s) (i+1)+1,left,[])else goI (strL s) 125 (zih (strL s) d) (s.size+1) (zaW (strL s) (i+1)) left []:(Nat×Int)⊕(Nat×Int×List (ByteArray×J))):=⟨_,rfl⟩
 rw[←hrr]at hsame ho
 have HSAME:=Lib.hid hsame
 have HO:=Lib.hid ho
 have hLB:=obj_begin w rb s (8-(d:Int)) i _ hr
 have hit:=items_any s rb 193 #[.pointer (some ⟨w.heap.size,0,none⟩),.pointer (some ⟨w.heap.size+3,0,none⟩),.pointer (some ⟨w.heap.size+1,0,none⟩)] (zih (strL s) d) _ _ (objItems w rb d s hs hd hv)
  (enters_of Tryz.func193 (by kernel_rfl) rfl) (8-(d:Int)) 125 (by omega) (by decide) (by decide) i left [] _ ⟨⟨[],.slice none 0 0,hLB⟩,h0,h1,by omega,by simp;omega,hg⟩ hi (by omega)
 rw[←hrr]at hit
 have HIT:=Lib.hid hit
 have HR:=Lib.hid hr
 have hmf: ∀(fn:Fn) (first cap:Array Value) (w:World),(Instr.makeFunc fn first cap).run Tryz.prog w= .ok (.func fn first cap) w:=fun _ _ _ _=>rfl
 clear hsame hM hrr hLB hit hr hg h123 hv ho
 go_enter Tryz.func166,Tryz.ntmps166
 go_wp2_with fail
 refine HIT.out.mono ?_
 intro e w2 ht
 rcases r with⟨p,er⟩|⟨j,lf,ms⟩
 ·obtain⟨rfl,hgr⟩:=ht
  have HGR:=Lib.hid hgr
  have HS2:Hid (er≠0∧M.2.1=p∧M.2.2.2=er):=Lib.hid HSAME.out
  clear hgr
  go_wp2
  exact⟨rfl,.inr ⟨by rw[HS2.out.2.2];exact HS2.out.1,by rw[HS2.out.2.1,HS2.out.2.2],HGR.out⟩⟩
 ·obtain⟨rfl,⟨zs,vM,hI⟩,l0,l1,hj,hvl,_⟩:=ht
  have HS2:Hid (M=(.mk 5 0 ⟨#[]⟩ (zcx ms).2 (zcx ms).1,zaW (strL s) j,lf,0)):=Lib.hid HSAME.out
  have HI:=Lib.hid hI
  have HC:=Lib.hid (HO.out j lf ms rfl w2 vM zs (fun b=>b<w2.heap.size) (fun b h=>h) (hI.flat.keeps (Keeps.refl _ _) (fun b _ h=>h)) hI.row)
  have k5:w2.cell? ⟨w.heap.size+3,0,none⟩=some vM:=hI.c5.cell 0
  have hsz:=hI.sz
  clear hI
  go_wp2_with fail
  refine HC.out.mono ?_
  rintro e w3 ⟨v',rfl,hrep,hb⟩
  obtain⟨vk,A,c9,rfl, -,⟨K9,d9,rfl, -, -⟩, -, -⟩:=hrep.open
  obtain⟨x0,hx0⟩: ∃a,a=(J.mk 5 0 ⟨#[]⟩ (zcx ms).2 (zcx ms).1).kind:=⟨_,rfl⟩
  obtain⟨x1,hx1⟩: ∃a,a=(J.mk 5 0 ⟨#[]⟩ (zcx ms).2 (zcx ms).1).n:=⟨_,rfl⟩
  obtain⟨x2,hx2⟩: ∃a,a=(J.mk 5 0 ⟨#[]⟩ (zcx ms).2 (zcx ms).1).s:=⟨_,rfl⟩
  obtain⟨x3,hx3⟩: ∃a,a=(J.mk 5 0 ⟨#[]⟩ (zcx ms).2 (zcx ms).1).l.length:=⟨_,rfl⟩
  obtain⟨x4,hx4⟩: ∃a,a=(J.mk 5 0 ⟨#[]⟩ (zcx ms).2 (zcx ms).1).k.length:=⟨_,rfl⟩
  rw[←hx0,←hx1,←hx2,←hx3,←hx4]at hrep⊢
  clear hx0 hx1 hx2 hx3 hx4
  have hc4:Blk w3 (w.heap.size+2) 63 zeros5:=HI.out.c4.below hb (by omega)
  have HR3:=Lib.hid (Blk.below HI.out.rdr hb HI.out.rdr.lt)
  have HG3:=Lib.hid (zaX hb (some rb))
  obtain⟨b0,b1,b2,b3,b4⟩:w3.cell? ⟨w.heap.size+2,0,none⟩=some (.int .i64 0)∧w3.cell? ⟨w.heap.size+2,1,none⟩=some (.int .i64 0)∧w3.cell? ⟨w.heap.size+2,2,none⟩=some (.string ⟨#[]⟩)∧w3.cell? ⟨w.heap.size+2,3,none⟩=some (.slice none 0 0)∧w3.cell? ⟨w.heap.size+2,4,none⟩=some (.slice none 0 0):=⟨hc4.cell 0,hc4.cell 1,hc4.cell 2,hc4.cell 3,hc4.cell 4⟩
  obtain⟨f0,f1,f2,f3,f4⟩:w3.frozen? ⟨w.heap.size+2,0,none⟩=false∧w3.frozen? ⟨w.heap.size+2,1,none⟩=false∧w3.frozen? ⟨w.heap.size+2,2,none⟩=false∧w3.frozen? ⟨w.heap.size+2,3,none⟩=false∧w3.frozen? ⟨w.heap.size+2,4,none⟩=false:=⟨hc4.frozen 0,hc4.frozen 1,hc4.frozen 2,hc4.frozen 3,hc4.frozen 4⟩
  have HF:=Lib.hid (zdZ hc4 (.int .i64 x0) (.int .i64 x1) (.string x2) (.slice A x3 c9) (.slice K9 x4 d9))
  have HREP:=Lib.hid hrep
  have hlt:=HI.out.lt
  clear hc4 hb hrep k5
  go_wp2
  refine bodyPost_ret (zbW Tryz.results166 _ _ (w.heap.size+2) _ _ _ rfl HF.out.1 Tryz.underlying63 rfl zau) rfl ?_
  have gr:=HF.out.2
  exact .inl ⟨by rw[HS2.out],_,j,rfl,by rw[HS2.out];exact RepS.keeps (Keeps.grown gr (fun b (h:_≤b) e=>by injection e with e;omega)) (fun b (h:_≤b) _=>show w.heap.size≤b by omega) _ _ HREP.out,hj,by rw[HS2.out],(HI.out.gr.trans HG3.out).andThen gr (by intro j hj;injection hj with hj;left;omega),by rw[HS2.out];exact Blk.grown HR3.out gr (by intro e;injection e with e;omega)⟩
theorem zje (kind n:Int) (s:ByteArray):Sm (.mk kind n s [] []):= .mk (by simp) (by simp) (fun x hx=>by cases hx)
theorem zcp:Sm zeroJ:=zje _ _ _
theorem putKL_sm (t:ByteArray) (x:J) (hx:Sm x): ∀(ks:List ByteArray) (vs:List J) (d:Bool),(∀y∈vs,Sm y)→
  (zca t x d ks vs).1.length≤ks.length+(if d then 0 else 1)∧(zca t x d ks vs).2.length≤ks.length+(if d then 0 else 1)∧ ∀y∈(zca t x d ks vs).2,Sm y
 |[],vs,false,_=>by rw[zca];exact⟨by simp,by simp,fun y hy=>by rw[List.mem_singleton.1 hy];exact hx⟩
 |[],vs,true,_=>by rw[zca];exact⟨by simp,by simp,fun y hy=>by cases hy⟩
 |k::ks,vs,d,h=>by
  have htl: ∀y∈vs.tail,Sm y:=fun y hy=>h y (List.mem_of_mem_tail hy)
  have hhd:Sm (vs.headD zeroJ):=by
   cases vs with
   |nil=>exact zcp
   |cons v r=>exact h v (by simp)
  obtain⟨i1,i2,i3⟩:=putKL_sm t x hx ks vs.tail (d|| !Op.bytesLess k.toList t.toList) htl
  rw[zca]
  dsimp only
  revert i1 i2 i3
  generalize Op.bytesLess k.toList t.toList=b
  intro i1 i2 i3
  have n1: ∀(p:Prop) [Decidable p],((if p then([t],[x])else([],[]):List ByteArray×List J).1.length≤if p then 1 else 0)∧((if p then([t],[x])else([],[]):List ByteArray×List J).2.length≤if p then 1 else 0)∧ ∀y∈(if p then([t],[x])else([],[]):List ByteArray×List J).2,Sm y:=fun p _=>by
   by_cases hp:p
   ·simp[hp,hx]
   ·simp[hp]
  have n2:((if k=t then([],[])else([k],[vs.headD zeroJ]):List ByteArray×List J).1.length≤1)∧((if k=t then([],[])else([k],[vs.headD zeroJ]):List ByteArray×List J).2.length≤1)∧ ∀y∈(if k=t then([],[])else([k],[vs.headD zeroJ]):List ByteArray×List J).2,Sm y:=by
   by_cases hp:k=t
   ·simp[hp]
   ·rw[if_neg hp];exact⟨by simp,by simp,fun y hy=>by rw[List.mem_singleton.1 hy];exact hhd⟩
  have key: ∀(A B C K:Nat),(A≤if d=false∧b=false then 1 else 0)→B≤1→(C≤K+if(d|| !b)=true then 0 else 1)→A+B+C≤K+1+if d=true then 0 else 1:=by
   intro A B C K x y z
   cases d<;>cases b<;>simp at x z⊢ <;>omega
  obtain⟨a1,a2,a3⟩:=n1 (d=false∧b=false)
  obtain⟨b1,b2,b3⟩:=n2
  refine⟨?_,?_,fun y hy=> ?_⟩
  ·rw[List.length_append,List.length_append];exact key _ _ _ _ a1 b1 i1
  ·rw[List.length_append,List.length_append];exact key _ _ _ _ a2 b2 i2
  ·rcases List.mem_append.1 hy with hy|hy
   ·rcases List.mem_append.1 hy with hy|hy
    ·exact a3 y hy
    ·exact b3 y hy
   ·exact i3 y hy
theorem valF_sm {l:List Int} {many:Nat→Int→VR} {i:Nat} {left:Int} (hm: ∀i left,i<l.length→0≤left→left≤256→Sm (many i left).1) (h0:0≤left) (h1:left≤256):Sm (valF l many i left).1:=by
 have tl: ∀v p,Sm v→Sm (zdh l (left-1) v p).1:=fun v p hv=>by
  unfold zdh;split
  ·exact zcp
  ·exact hv
 unfold valF
 by_cases hb:zba (atL l i)=true
 ·rw[if_neg (by rw[hb];simp)]
  have hlt:i<l.length:=zbZ (by intro e;rw[e]at hb;revert hb;decide)
  split
  ·exact zcp
  ·split
   ·split
    ·exact zcp
    ·split
     ·exact zje _ _ _
     ·exact zcp
   ·split
    ·exact tl _ _ zcp
    ·split
     ·exact tl _ _ (zje _ _ _)
     ·split
      ·exact tl _ _ (zje _ _ _)
      ·split
       ·exact tl _ _ (zje _ _ _)
       ·exact hm i (left-1) hlt (by omega) (by omega)
 ·rw[if_pos hb];exact zcp
theorem zjw (l:List Int) (val:Nat→Int→VR) (obj:Bool) (hv: ∀i left,i≤l.length→0≤left→left≤256→Sm (val i left).1) (hmv: ∀i left,i≤l.length→Moves l i left (val i left)) (hls: ∀i left,i≤l.length→(val i left).2.2.2=0→(val i left).2.2.1<left):
  ∀(f:Nat) (first:Bool) (i:Nat) (left:Int) (ks:List ByteArray) (vs:List J),i≤l.length→0≤left→(vs.length:Int)+left≤256→(ks.length:Int)+left≤256→(∀x∈vs,Sm x)→Sm (zat l val obj f first i left ks vs).1
 |0,first,i,left,ks,vs,_,_,_,_,_=>by rw[zat];exact zcp
 |f+1,first,i,left,ks,vs,hi,h0,h1,h2,hs=>by
  have item: ∀i t,i≤l.length→Sm (zfa l val obj (zat l val obj f false) i left t ks vs).1:=fun i t hi=>by
   unfold zfa
   split
   ·exact zcp
   ·rename_i he
    obtain⟨m1,m2,m3,m4⟩:=hmv i left hi (by omega)
    have m5:=hls i left hi (by omega)
    have hx:=hv i left hi h0 (by omega)
    by_cases hc:atL l (val i left).2.1≠44∧atL l (val i left).2.1≠(if obj=true then 125 else 93)
    ·rw[if_pos hc];exact zcp
    ·rw[if_neg hc]
     split
     ·obtain⟨p1,p2,p3⟩:=putKL_sm t (val i left).1 hx ks vs false hs
      refine zjw l val obj hv hmv hls f false _ _ _ _ m2 m3 ?_ ?_ p3
      ·simp at p2;omega
      ·simp at p1;omega
     ·refine zjw l val obj hv hmv hls f false _ _ _ _ m2 m3 ?_ (by omega) (fun y hy=> ?_)
      ·rw[List.length_append,List.length_singleton];omega
      ·rcases List.mem_append.1 hy with hy|hy
       ·exact hs y hy
       ·rw[List.mem_singleton.1 hy];exact hx
  have memb: ∀i,i≤l.length→Sm (zfg l val obj (zat l val obj f false) i left ks vs).1:=fun i hi=>by
   unfold zfg
   split
   ·split
    ·exact zcp
    ·rename_i hq
     have hql:=zdr l i (by omega)
     split
     ·exact zcp
     ·split
      ·exact zcp
      ·rename_i h58
       have hlt:=zbZ (l:=l) (i:=zaW l (zan l i).2.1) (by omega)
       exact item _ _ (zak hlt).2
   ·exact item _ _ hi
  rw[zat]
  by_cases hc:atL l i=(if obj=true then 125 else 93)
  ·rw[if_pos hc];exact .mk (by omega) (by omega) hs
  ·rw[if_neg hc]
   split
   ·exact memb i hi
   ·split
    ·exact zcp
    ·rename_i h44
     have hlt:=zbZ (l:=l) (i:=i) (by omega)
     exact memb _ (zak hlt).2
theorem valueL_sm (l:List Int): ∀(d i:Nat) (left:Int),0≤left→left≤256→Sm (valueL l d i left).1
 |0,i,left,h0,h1=>by rw[valueL];exact valF_sm (fun _ _ _ _ _=>zcp) h0 h1
 |d+1,i,left,h0,h1=>by
  rw[valueL]
  refine valF_sm (fun i left hi h0 h1=> ?_) h0 h1
  unfold zfK
  exact zjw l _ _ (fun i left _ h0 h1=>valueL_sm l d i left h0 h1) (fun i left hi=>zbh l d i left hi) (fun i left hi he=>zew l d i left he hi) _ _ _ _ _ _ (zak hi).2 h0 (by simp;omega) (by simp;omega) (fun x hx=>by cases hx)
end Go.Proofs.YtceddodfddlncaaGreatDoor
