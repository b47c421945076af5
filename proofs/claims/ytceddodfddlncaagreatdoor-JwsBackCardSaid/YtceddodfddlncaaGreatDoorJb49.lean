
import Derived.Test.YtceddodfddlncaaGreatDoorJb10
import Derived.Test.YtceddodfddlncaaGreatDoorJb13
set_option maxRecDepth 100000
set_option maxHeartbeats 16000000
set_option linter.all false
namespace Go.Proofs.YtceddodfddlncaaGreatDoor
open Go Go.RowKit
theorem sizeKeyG:(Tryz.prog.info? 41).map (·.size)=some 2:=by kernel_rfl
theorem zeroKeyG:(Tryz.prog.info? 41).map (·.zero)=some (some (.agg ([.string ⟨#[]⟩,.string ⟨#[]⟩]:List Value).toArray)):=by kernel_rfl
theorem mid_belowG {wr w1 w2 w3:World} {g:Nat} (h1:Below wr.heap.size wr w1) (h2:w1.grownBy w2 none) (hg:w1.heap.size≤g) (h3:w2.grownBy w3 (some g)):Below wr.heap.size wr w3:=
 (h1.grown h2 h1.size (fun b hb=>by cases hb)).grown h3 (Nat.le_trans h1.size h2.size) (fun b hb=>by injection hb with hb;have:=h1.size;omega)
theorem wp_build_ofK {P:Program} {o:Oper} {a:Act} {w:World} {K:Act→World→Prop} {Q:Exit→Act→World→Prop} (t:TypeId) (parts:Array (Nat×Operand)) (ho:o.op= .build t parts) (vals:List (Nat×Value)) (cells:Array Value)
  (hv:(parts.map fun(i,x)=>(i,a.eval x)).toList=vals) (hb:P.built t vals=some cells) (h:K (a.put o.dst (.agg cells)) w):o.wp P a w K Q:=by
 subst hv
 exact wp_build t parts ho (by rw[hb];rfl) (by rw[hb];exact h)
theorem built_keyG (a b:ByteArray):Tryz.prog.built 41 [(0,.string a),(1,.string b)]=some #[.string a,.string b]:=by kernel_rfl
theorem own_blkK {w:World} {base g cap n:Nat} {fl:List Value} (h:w.ownsRow base 41 2 (.slice (some ⟨g,0,none⟩) n cap) n fl): ∃cs:List Value,Blk w g 41 cs∧cs.length=cap*2∧n≤cap∧cap≤maxLen∧cs.take (n*2)=fl∧base≤g:=by
 obtain⟨_,h|⟨g',cap',cur,e,hb,hh,h1,h2,h3,h4⟩⟩:=h
 ·cases h.1
 ·injection e with e1 e2 e3
  injection e1 with e1
  injection e1 with e1
  subst e1;subst e3
  exact⟨cur.toList,by unfold Blk;rw[hh],by simpa using h3,h1,h2,h4,hb⟩
theorem blk_ownK {w:World} {base g cap n:Nat} {fl cs:List Value} (hf:fl.length=n*2) (hb:Blk w g 41 cs) (hl:cs.length=cap*2) (h1:n≤cap) (h2:cap≤maxLen) (h3:cs.take (n*2)=fl) (hg:base≤g):w.ownsRow base 41 2 (.slice (some ⟨g,0,none⟩) n cap) n fl:=
 ⟨hf,.inr ⟨g,cap,cs.toArray,rfl,hg,hb,h1,h2,by simpa using hl,by simpa using h3⟩⟩
theorem splice_same {cs:List Value} {i:Nat} {a b:Value} (h0:cs[i]? =some a) (h1:cs[i+1]? =some b):splice cs i [a,b]=cs:=by
 apply List.ext_getElem?
 intro j
 have hi:i+1<cs.length:=(List.getElem?_eq_some_iff.1 h1).1
 unfold splice
 have e:([a,b]:List Value).length=2:=rfl
 by_cases hj:j<i
 ·rw[List.getElem?_append_left (by rw[List.length_take];omega),List.getElem?_take_of_lt hj]
 ·rw[List.getElem?_append_right (by rw[List.length_take];omega),List.length_take,Nat.min_eq_left (by omega)]
  by_cases hj2:j<i+2
  ·rw[List.getElem?_append_left (by rw[e];omega)]
   rcases(show j=i∨j=i+1 by omega)with rfl|rfl
   ·rw[Nat.sub_self,h0];rfl
   ·rw[Nat.add_sub_cancel_left,h1];rfl
  ·rw[List.getElem?_append_right (by rw[e];omega),e,List.getElem?_drop]
   congr 1;omega
theorem gather_any (ks:List KeyM) (A:Option Addr) (n c:Nat) (k:KeyM) (B c2 L:Nat) (w:World) (hn:ks.length=n) (hn1:1≤n) (hn9:n≤100) (hr:RingAt w A ks) (hrk:RingAt w (some ⟨B,0,none⟩) [k]) (hL0:w.cell? ⟨L,0,none⟩=some (.slice A n c)) (hL1:w.cell? ⟨L,1,none⟩=some (.slice (some ⟨B,0,none⟩) 1 c2)) (hsz: ∀x∈ks++[k],x.1.size≤1000000000∧x.2.size≤1000000000):
  Calls Tryz.prog 45 #[.slice (some ⟨L,0,none⟩) 2 2] w fun e w'=> ∃g cap,e= .returned (.slice (some ⟨g,0,none⟩) (n+1) cap)∧w'.ownsRow w.heap.size 41 2 (.slice (some ⟨g,0,none⟩) (n+1) cap) (n+1) (zce (ks++[k]))∧Below w.heap.size w w':=by
 have HCC:=Lib.hid (concatK_any ks A n c k B c2 L w hn hn1 hn9 hr hrk hL0 hL1)
 have hal:(ks++[k]).length=n+1:=by rw[List.length_append,hn];rfl
 obtain⟨al,hald⟩: ∃al,al=ks++[k]:=⟨_,rfl⟩
 rw[←hald]at HCC hsz hal⊢
 obtain⟨N,hN⟩: ∃N,N=n+1:=⟨_,rfl⟩
 rw[←hN]at HCC hal⊢
 have HSZ:=Lib.hid hsz
 have HAL:=Lib.hid hal
 have hN9:N≤101:=by omega
 clear hr hrk hL0 hL1 hsz hald hal hN hn hn1 hn9
 go_enter Tryz.func45,Tryz.ntmps45
 go_wp2_with fail
 refine HCC.out.mono ?_
 rintro e w1 ⟨g,cap,rfl,hown,hb⟩
 have HO1:=Lib.hid hown
 have HB1:=Lib.hid hb
 clear hown hb HCC
 go_wp2_with fail
 go_loopw[10] (fun v10 wr=> ∃i:Nat,v10= .int .i64 (i:Int)∧i≤N∧wr.ownsRow w.heap.size 41 2 (.slice (some ⟨g,0,none⟩) N cap) N (zce al)∧Below w.heap.size w wr) (fun v10 _=>N-(intOf v10).toNat)
 case atStart=>exact⟨0,rfl,Nat.zero_le _,HO1.out,HB1.out⟩
 case round=>
  obtain⟨i,rfl,hi,hown,hbel⟩:=hrel
  by_cases hlt:i<N
  ·have k0:(0:Int)≤(i:Int):=by omega
   have k1:(i:Int)<(N:Int):=by omega
   have hil:i<al.length:=by rw[HAL.out];exact hlt
   obtain⟨q1,q2,hq⟩: ∃a b,al[i]=(a,b):=⟨al[i].1,al[i].2,rfl⟩
   have hz:=HSZ.out _ (List.getElem_mem hil)
   rw[hq]at hz
   obtain⟨f1,f2⟩:=zhk al i _ (List.getElem?_eq_getElem hil)
   rw[hq]at f1 f2
   dsimp only at f1 f2 hz
   obtain⟨cs,hblk,hcl,hNc,hcm,hct,hgb⟩:=own_blkK hown
   have t1:cs[i*2]? =some (.string q1):=by rw[←hct,List.getElem?_take]at f1;rw[if_pos (by omega)]at f1;exact f1
   have t2:cs[i*2+1]? =some (.string q2):=by rw[←hct,List.getElem?_take]at f2;rw[if_pos (by omega)]at f2;exact f2
   have c1:wr.cell? ⟨g,i*2,none⟩=some (.string q1):=(hblk.cell _).trans t1
   have c2:wr.cell? ⟨g,i*2+1,none⟩=some (.string q2):=(hblk.cell _).trans t2
   have HSP:=Lib.hid (splice_same t1 t2)
   have HLE:=Lib.hid (show i*2+[Value.string q1,Value.string q2].length≤cs.length by rw[hcl];simp;omega)
   have HBLK0:=Lib.hid hblk
   have HGE:=Lib.hid hgb
   have HOWN:=Lib.hid (fun(X:World) (h:Blk X g 41 cs)=>blk_ownK (base:=w.heap.size) (by rw[zer,HAL.out]) h hcl hNc hcm hct hgb)
   have HBEL:=Lib.hid hbel
   have HCL1:=Lib.hid (fun X=>zht q1 X (by omega))
   have HCL2:=Lib.hid (fun X=>zht q2 X (by omega))
   have hgl:=hblk.lt
   clear hblk hcl hNc hcm hct hgb hown hbel f1 f2 hz t1 t2 hq
   go_wp2_with(first
    |(refine zaK rfl (some 5) rfl _ rfl [.string ⟨#[]⟩,.string ⟨#[]⟩] zeroKeyG ?_;intro g5 wa5 hg5 hb5 hgr5;have HA5:=Lib.hid hgr5;have HG5:=Lib.hid hg5;clear hgr5 hg5;try go_frame)
    |(refine zac rfl none rfl _ (.tmp 5) (.tmp 14) rfl g5 0 [.string q1,.string q2] rfl rfl _ _ hb5 (by simp) sizeKeyG (by intro v hv;simp at hv;rcases hv with rfl|rfl<;>rfl) ?_;intro w5 hc5 hgs5;rw[zah _ _ (by simp)]at hc5;have HM5:=Lib.hid (mid_belowG (Below.refl _ _) HA5.out HG5.out hgs5);have HC5:=Lib.hid hc5;clear hgs5 hb5 hc5;try go_frame)
    |fail)
   have HBLK:=Lib.hid (HBLK0.out.below HM5.out hgl)
   have HGLT:=Lib.hid (Nat.lt_of_lt_of_le hgl HM5.out.size)
   have HNE:=Lib.hid (show g5≠g by have:=HG5.out;omega)
   have HB57:=Lib.hid (HBEL.out.trans (HM5.out.mono HBEL.out.size))
   have HSX:Hid (∀X,Below w5.heap.size w5 X→(X.cell? ⟨g5,0,none⟩=some (.string q1)∧X.cell? ⟨g5,1,none⟩=some (.string q2))):=Lib.hid fun X hX=>by
    have:=HC5.out.below hX HC5.out.lt
    exact⟨this.cell 0,this.cell 1⟩
   have HDR:=Lib.hid ((Below.refl w5.heap.size w5).drew)
   clear c1 c2
   refine wp_region_held_drew (S:=fun X=>(X.cell? ⟨g5,0,none⟩=some (.string q1)∧X.cell? ⟨g5,1,none⟩=some (.string q2))) (by kernel_rfl) (HSX.out _ HDR.out) (fun hHeld=> ?_)
   refine rgT 0 ?_
   try simp only[rgS]
   refine rgT 1 ?_
   try simp only[rgS]
   refine rgT 2 ?_
   try simp only[rgS]
   refine rgT 3 ?_
   try simp only[rgS]
   refine rgT 5 ?_
   try simp only[rgS]
   refine rgT 6 ?_
   try simp only[rgS]
   refine rgO 4 (fun K hK=> ?_)
   go_simp
   (with_reducible refine(HCL1.out _).mono ?_)
   rintro e w6 ⟨rfl,hb⟩
   have HB6:=Lib.hid (HDR.out.trans (hb.mono HDR.out.size))
   refine hK.out _ _ (HSX.out _ HB6.out) (fun hH=> ?_)
   clear hK K hb
   try simp only[rgS]
   refine rgO 7 (fun K hK=> ?_)
   go_simp
   (with_reducible refine(HCL2.out _).mono ?_)
   rintro e w7 ⟨rfl,hb⟩
   have HB7:=Lib.hid (HB6.out.trans (hb.mono HB6.out.size))
   refine hK.out _ _ (HSX.out _ HB7.out) (fun hH=> ?_)
   clear hK K hb
   try simp only[rgS]
   refine rgO 8 (fun K hK=> ?_)
   rw[if_pos (by kernel_rfl)]
   refine wp_build_ofK 41 _ rfl [(0,.string q1),(1,.string q2)] _ (by kernel_rfl) (built_keyG q1 q2) ?_
   refine hK.out _ _ (HSX.out _ HB7.out) (fun hH2=> ?_)
   clear hK K
   try simp only[rgS]
   refine rgT 9 ?_
   try simp only[rgS]
   refine rgO 10 (fun K hK=> ?_)
   rw[if_pos (by kernel_rfl)]
   have hblk7:=HBLK.out.below HB7.out HGLT.out
   refine zfh 41 (.tmp 24) (.tmp 23) rfl g (i*2) [.string q1,.string q2] (by first|rfl|(simp;done)) rfl _ _ hblk7 HLE.out sizeKeyG (by intro v hv;simp at hv;rcases hv with rfl|rfl<;>rfl) ?_
   intro w8 hb8 hg8
   rw[HSP.out]at hb8
   have hne:g5≠g:=HNE.out
   have h5:=(HC5.out.below HB7.out HC5.out.lt).grown hg8 (by intro e;injection e with e;exact hne e)
   refine hK.out _ _ ⟨h5.cell 0,h5.cell 1⟩ (fun hH3=> ?_)
   have HF:=Lib.hid (HOWN.out w8 hb8)
   have HBF:=Lib.hid ((HB57.out.trans (HB7.out.mono HB57.out.size)).grown hg8 (HB57.out.trans (HB7.out.mono HB57.out.size)).size (by intro b e;injection e with e;have:=HGE.out;omega))
   clear hK K hb8 hg8 h5
   try simp only[rgS]
   refine wpAnyH_done (by kernel_rfl) ?_ _
   go_wp2_with fail
   go_roundw
   case rel=>exact⟨i+1,by go_num,hlt,HF.out,HBF.out⟩
   case measure=>simp[intOf];omega
  ·obtain rfl:i=N:=by omega
   have hkn: ¬(i:Int)<(i:Int):=by omega
   go_wp2
   go_ret
   exact⟨g,cap,rfl,hown,hbel⟩
def RotTells (ks:List KeyM) (k:KeyM) (w:World) (e:Ending) (w':World):Prop:=
 ((rotB ks k=true∧ ∃g N cap,e= .returned (.tuple #[.slice (some ⟨g,0,none⟩) N cap,.nilIface])∧N=(zex ks k).length∧N≤cap∧w.heap.size≤g∧RingAt w' (some ⟨g,0,none⟩) (zex ks k))∨
  (rotB ks k=false∧e= .returned (.tuple #[.slice none 0 0,.iface 54 (.int .i64 83)])))∧Below w.heap.size w w'
theorem ring_alloc1 (w:World) (k1 k2:ByteArray) (t:TypeId) (o2:Obj):RingAt ((w.alloc (.cells #[.string k1,.string k2] t)).alloc o2) (some ⟨w.heap.size,0,none⟩) [(k1,k2)]:=fun _=>⟨_,0,rfl,by simp;omega,fun i q hi=>by
 have h0:(w.alloc (.cells #[.string k1,.string k2] t)).cell? ⟨w.heap.size,0,none⟩=some (.string k1):=by simp
 have h1:(w.alloc (.cells #[.string k1,.string k2] t)).cell? ⟨w.heap.size,1,none⟩=some (.string k2):=by simp
 cases i with
 |zero=>
  have hi:(k1,k2)=q:=by simpa using hi
  subst hi
  exact⟨((zad (w.alloc (.cells #[.string k1,.string k2] t)) o2).cell (p:=⟨w.heap.size,0,none⟩) (by simp)).trans h0,((zad (w.alloc (.cells #[.string k1,.string k2] t)) o2).cell (p:=⟨w.heap.size,1,none⟩) (by simp)).trans h1⟩
 |succ i=>simp at hi⟩
theorem gather_at (js:List KeyM) (A:Option Addr) (m c:Nat) (k1 k2:ByteArray) (w1:World) (hm:js.length=m) (hm1:1≤m) (hm9:m≤100) (hr:RingAt w1 A js) (hsz: ∀x∈js++[(k1,k2)],x.1.size≤1000000000∧x.2.size≤1000000000):
  Calls Tryz.prog 45 #[.slice (some ⟨w1.heap.size+1,0,none⟩) 2 2] ((w1.alloc (.cells #[.string k1,.string k2] 41)).alloc (.cells #[.slice A m c,.slice (some ⟨w1.heap.size,0,none⟩) 1 1] 22)) fun e w'=> ∃g cap,e= .returned (.slice (some ⟨g,0,none⟩) (m+1) cap)∧m+1≤cap∧w1.heap.size≤g∧RingAt w' (some ⟨g,0,none⟩) (js++[(k1,k2)])∧Below w1.heap.size w1 w':=by
 have hb1:=zad w1 (.cells #[.string k1,.string k2] 41)
 have hb2:=hb1.alloc hb1.size (.cells #[.slice A m c,.slice (some ⟨w1.heap.size,0,none⟩) 1 1] 22)
 refine(gather_any js A m c (k1,k2) w1.heap.size 1 (w1.heap.size+1) _ hm hm1 hm9 (hr.below hb2) (ring_alloc1 w1 k1 k2 _ _) (by simp) (by simp) hsz).mono ?_
 rintro e w' ⟨g,cap,rfl,hown,hb⟩
 obtain⟨cs, -, -,hc, -, -,hg⟩:=own_blkK hown
 exact⟨g,cap,rfl,hc,Nat.le_trans hb2.size hg,own_ring hown,hb2.trans (hb.mono hb2.size)⟩
theorem jwRotate_any (ks:List KeyM) (A:Option Addr) (n c:Nat) (k:KeyM) (w:World) (hn:ks.length=n) (hn9:n≤1000000) (hnc:n≤c) (hk:KeyOk ks) (hr:RingAt w A ks) (hk1:k.1.size≤1000000) (hk2:k.2.size≤1000000):
  Calls Tryz.prog 18 #[.slice A n c,.agg #[.string k.1,.string k.2]] w (RotTells ks k w):=by
 obtain⟨k1,k2⟩:=k
 have HCK:=Lib.hid (fun(W:World) (hW:Below w.heap.size w W)=>zgc ks A n c W hn (by omega) hnc hk (hr.below hW))
 obtain⟨rb,hrb⟩: ∃b,b=zbn ks:=⟨_,rfl⟩
 have HRB:=Lib.hid hrb
 have hq0:(w.alloc (.cells #[.string k1,.string k2] 41)).cell? ⟨w.heap.size,0,none⟩=some (.string k1):=by simp
 have hq1:(w.alloc (.cells #[.string k1,.string k2] 41)).cell? ⟨w.heap.size,1,none⟩=some (.string k2):=by simp
 have HR:=Lib.hid hr
 have HN:=Lib.hid hn
 have HBX:=Lib.hid (zad w (.cells #[.string k1,.string k2] 41))
 clear hr hrb
 cases rb with
 |false=>
  go_enter Tryz.func18,Tryz.ntmps18
  go_wp2_with(go_at_call 11;(with_reducible refine(HCK.out _ HBX.out).mono ?_);rintro e w1 ⟨rfl,hb⟩;have HB1:=Lib.hid (HBX.out.trans (hb.mono HBX.out.size));rw[if_neg (by rw[←HRB.out];decide)];clear hb)
  go_ret2
  exact⟨.inr ⟨by unfold rotB;rw[←HRB.out];rfl,rfl⟩,HB1.out⟩
 |true=>
  obtain⟨l1,l2,l3⟩:=zbl HRB.out.symm
  have hne:ks≠[]:=fun e=>by rw[e]at l1;simp at l1
  obtain⟨b,o,rfl,hblt, -⟩:=HR.out hne
  have hall: ∀x∈ks++[(k1,k2)],x.1.size≤1000000∧x.2.size≤1000000:=fun x hx=>by
   rw[List.mem_append]at hx
   rcases hx with hx|hx
   ·obtain⟨q1,_,q3⟩:=l3 x hx
    have:=zcW q1
    exact⟨by omega,by omega⟩
   ·rw[List.mem_singleton]at hx;subst hx;exact⟨hk1,hk2⟩
  by_cases h4:n=4
  ·subst h4
   have HT:Hid (zex ks (k1,k2)=ks.drop 1++[(k1,k2)]):=Lib.hid (by unfold zex;rw[if_pos hn])
   have hsub: ∀x∈ks.drop 1++[(k1,k2)],x.1.size≤1000000∧x.2.size≤1000000:=fun x hx=>by
    rw[List.mem_append]at hx
    exact hall x (List.mem_append.2 (hx.imp_left List.mem_of_mem_drop))
   have HSZ:Hid (∀x∈ks.drop 1++[(k1,k2)],x.1.size≤1000000000∧x.2.size≤1000000000):=Lib.hid fun x hx=>⟨by have:=(hsub x hx).1;omega,by have:=(hsub x hx).2;omega⟩
   have HKT:Hid (KeyOk (zex ks (k1,k2))):=Lib.hid (by rw[HT.out];exact fun x hx=>⟨by have:=(hsub x hx).1;omega,by have:=(hsub x hx).2;omega⟩)
   have HTL:Hid ((zex ks (k1,k2)).length=4):=Lib.hid (by rw[HT.out,List.length_append,List.length_drop,hn];rfl)
   have HRD:Hid (∀W,Below w.heap.size w W→RingAt W (some ⟨b,o+2,none⟩) (ks.drop 1)):=Lib.hid fun W hW=>by have:=(HR.out.below hW).drop 1;rwa [Nat.one_mul]at this
   clear hsub hall l1 l2 l3 hne hn hk
   go_enter Tryz.func18,Tryz.ntmps18
   go_wp2_with(first
    |(go_at_call 11;(with_reducible refine(HCK.out _ HBX.out).mono ?_);rintro e w1 ⟨rfl,hb⟩;have HB1:=Lib.hid (HBX.out.trans (hb.mono HBX.out.size));have y0:=(hb.cell (zaa hq0)).trans hq0;have y1:=(hb.cell (zaa hq1)).trans hq1;rw[if_pos HRB.out.symm];clear hb)
    |fail)
   have HGA:=Lib.hid (gather_at (ks.drop 1) (some ⟨b,o+2,none⟩) 3 (c-1) k1 k2 w1 (by rw[List.length_drop,HN.out]) (by omega) (by omega) (HRD.out w1 HB1.out) HSZ.out)
   refine HGA.out.mono ?_
   rintro e w2 ⟨g,cap,rfl,hcap,hg,hrg,hb2⟩
   rw[←HT.out]at hrg
   have HRG:=Lib.hid hrg
   have HG:=Lib.hid hg
   have HCAP:=Lib.hid hcap
   have HB2:=Lib.hid (HB1.out.trans (hb2.mono HB1.out.size))
   have HCK2:=Lib.hid (zgc (zex ks (k1,k2)) (some ⟨g,0,none⟩) 4 cap w2 HTL.out (by omega) hcap HKT.out hrg)
   clear hcap hg hrg hb2 HGA
   obtain⟨tb,htb⟩: ∃b,b=zbn (zex ks (k1,k2)):=⟨_,rfl⟩
   have HTB:=Lib.hid htb
   clear htb
   cases tb with
   |false=>
    go_wp2_with(go_at_call 11;(with_reducible refine HCK2.out.mono ?_);rintro e w3 ⟨rfl,hb⟩;have HB3:=Lib.hid (HB2.out.trans (hb.mono HB2.out.size));rw[if_neg (by rw[←HTB.out];decide)];clear hb)
    go_ret2
    exact⟨.inr ⟨by unfold rotB;rw[←HTB.out,Bool.and_false],rfl⟩,HB3.out⟩
   |true=>
    go_wp2_with(go_at_call 11;(with_reducible refine HCK2.out.mono ?_);rintro e w3 ⟨rfl,hb⟩;have HB3:=Lib.hid (HB2.out.trans (hb.mono HB2.out.size));have HR3:=Lib.hid (HRG.out.below hb);rw[if_pos HTB.out.symm];clear hb)
    go_ret2
    exact⟨.inl ⟨by unfold rotB;rw[←HTB.out,←HRB.out];rfl,g,_,cap,rfl,HTL.out.symm,HCAP.out,Nat.le_trans HB1.out.size HG.out,HR3.out⟩,HB3.out⟩
  ·have h4': ¬(n:Int)=4:=by omega
   have h4b:((n:Int)==4)=false:=by rw[beq_eq_false_iff_ne];omega
   have HT:Hid (zex ks (k1,k2)=ks++[(k1,k2)]):=Lib.hid (by unfold zex;rw[if_neg (by rw[hn];exact h4)])
   have HSZ:Hid (∀x∈ks++[(k1,k2)],x.1.size≤1000000000∧x.2.size≤1000000000):=Lib.hid fun x hx=>⟨by have:=(hall x hx).1;omega,by have:=(hall x hx).2;omega⟩
   have HKT:Hid (KeyOk (zex ks (k1,k2))):=Lib.hid (by rw[HT.out];exact fun x hx=>⟨by have:=(hall x hx).1;omega,by have:=(hall x hx).2;omega⟩)
   have HTL:Hid ((zex ks (k1,k2)).length=n+1):=Lib.hid (by rw[HT.out,List.length_append,hn];rfl)
   have HRD:Hid (∀W,Below w.heap.size w W→RingAt W (some ⟨b,o,none⟩) ks):=Lib.hid fun W hW=>HR.out.below hW
   rw[hn]at l1 l2
   clear hall l3 hne hn hk hnc
   go_enter Tryz.func18,Tryz.ntmps18
   go_wp2_with(first
    |(go_at_call 11;(with_reducible refine(HCK.out _ HBX.out).mono ?_);rintro e w1 ⟨rfl,hb⟩;have HB1:=Lib.hid (HBX.out.trans (hb.mono HBX.out.size));have y0:=(hb.cell (zaa hq0)).trans hq0;have y1:=(hb.cell (zaa hq1)).trans hq1;rw[if_pos HRB.out.symm];clear hb)
    |fail)
   have HGA:=Lib.hid (gather_at ks (some ⟨b,o,none⟩) n c k1 k2 w1 HN.out (by have:=HN.out;omega) (by omega) (HRD.out w1 HB1.out) HSZ.out)
   refine HGA.out.mono ?_
   rintro e w2 ⟨g,cap,rfl,hcap,hg,hrg,hb2⟩
   rw[←HT.out]at hrg
   have HRG:=Lib.hid hrg
   have HG:=Lib.hid hg
   have HCAP:=Lib.hid hcap
   have HB2:=Lib.hid (HB1.out.trans (hb2.mono HB1.out.size))
   have HCK2:=Lib.hid (zgc (zex ks (k1,k2)) (some ⟨g,0,none⟩) (n+1) cap w2 HTL.out (by omega) hcap HKT.out hrg)
   clear hcap hg hrg hb2 HGA
   obtain⟨tb,htb⟩: ∃b,b=zbn (zex ks (k1,k2)):=⟨_,rfl⟩
   have HTB:=Lib.hid htb
   clear htb
   cases tb with
   |false=>
    go_wp2_with(go_at_call 11;(with_reducible refine HCK2.out.mono ?_);rintro e w3 ⟨rfl,hb⟩;have HB3:=Lib.hid (HB2.out.trans (hb.mono HB2.out.size));rw[if_neg (by rw[←HTB.out];decide)];clear hb)
    go_ret2
    exact⟨.inr ⟨by unfold rotB;rw[←HTB.out,Bool.and_false],rfl⟩,HB3.out⟩
   |true=>
    go_wp2_with(go_at_call 11;(with_reducible refine HCK2.out.mono ?_);rintro e w3 ⟨rfl,hb⟩;have HB3:=Lib.hid (HB2.out.trans (hb.mono HB2.out.size));have HR3:=Lib.hid (HRG.out.below hb);rw[if_pos HTB.out.symm];clear hb)
    go_ret2
    exact⟨.inl ⟨by unfold rotB;rw[←HTB.out,←HRB.out];rfl,g,_,cap,rfl,HTL.out.symm,HCAP.out,Nat.le_trans HB1.out.size HG.out,HR3.out⟩,HB3.out⟩
end Go.Proofs.YtceddodfddlncaaGreatDoor
