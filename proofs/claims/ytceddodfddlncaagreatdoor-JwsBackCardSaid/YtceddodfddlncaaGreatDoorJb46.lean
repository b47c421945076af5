
import Derived.Test.YtceddodfddlncaaGreatDoorJb09
import Derived.Test.YtceddodfddlncaaGreatDoorJb12
set_option maxRecDepth 100000
set_option maxHeartbeats 16000000
set_option linter.all false
namespace Go.Proofs.YtceddodfddlncaaGreatDoor
open Go Go.RowKit
theorem info33:(Tryz.prog.info? 124).map (fun i=>(i.zero,i.size,i.bytes))=some (some (.int .u32 0),1,4):=by kernel_rfl
theorem wordR_bd (b:List Int) (t:Nat): ∀i,0≤zeK b t i∧zeK b t i<4294967296
 |0=>by rw[zeK];omega
 |i+1=>by rw[zeK];omega
theorem zjK (b:List Int): ∀n i,0≤(zav b n).getD i 0∧(zav b n).getD i 0<4294967296
 |0,i=>by simp[zav]
 |n+1,i=>by
  rw[zav,List.getD_eq_getElem?_getD]
  by_cases h:i<n
  ·rw[List.getElem?_append_left (by rw[length_wordsR];exact h),←List.getD_eq_getElem?_getD];exact zjK b n i
  ·by_cases h2:i=n
   ·subst h2
    rw[List.getElem?_append_right (by rw[length_wordsR];omega),length_wordsR,Nat.sub_self]
    show 0≤(if i<16 then zeK b i 4 else zhc (zav b i) i)∧_<_
    by_cases h16:i<16
    ·simp only[List.getElem?_cons_zero,Option.getD_some,if_pos h16];exact wordR_bd b i 4
    ·simp only[List.getElem?_cons_zero,Option.getD_some,if_neg h16];exact nextw_bd _ _
   ·rw[List.getElem?_eq_none (by simp;omega)];simp
theorem zfV {w:World} {a:Addr} {v:Value} (h:w.cell? a=some v):a.block<w.heap.size:=by
 rcases Nat.lt_or_ge a.block w.heap.size with h'|h'
 ·exact h'
 ·simp[World.cell?,Array.getElem?_eq_none h']at h
theorem rnds_ok (W s:List Int) (hs:s.length=8) (hsd: ∀i,0≤s.getD i 0∧s.getD i 0<4294967296): ∀k,(rnds W s k).length=8∧ ∀i,0≤(rnds W s k).getD i 0∧(rnds W s k).getD i 0<4294967296
 |0=>⟨hs,hsd⟩
 |k+1=>by
  obtain⟨hl,hd⟩:=rnds_ok W s hs hsd k
  rw[rnds]
  obtain⟨a,b,c,d,e,f,g,h,hR⟩:=eight _ hl
  rw[hR]at hd⊢
  refine⟨rfl,fun i=> ?_⟩
  have h0:=hd 0;have h1:=hd 1;have h2:=hd 2;have h3:=hd 3;have h4:=hd 4;have h5:=hd 5;have h6:=hd 6;have h7:=hd 7
  simp only[List.getD_cons_zero,List.getD_cons_succ]at h0 h1 h2 h3 h4 h5 h6 h7
  simp only[rnd]
  match i with
  |0=>simp only[List.getD_cons_zero];omega
  |1=>exact h0
  |2=>exact h1
  |3=>exact h2
  |4=>simp only[List.getD_cons_zero,List.getD_cons_succ];omega
  |5=>exact h4
  |6=>exact h5
  |7=>exact h6
  |i+8=>simp
theorem refOne_any (s b:List Int) (gS cS:Nat) (bs:ByteArray) (w:World) (hs:s.length=8) (hsd: ∀i,0≤s.getD i 0∧s.getD i 0<4294967296) (hbl:bs.size=64) (hb: ∀i (h:i<bs.size),((bs[i]'h).toNat:Int)=b.getD i 0) (hbd:Bytes b)
  (hS: ∀j v,(ints .u32 s)[j]? =some v→w.cell? ⟨gS,j,none⟩=some v) (hgS:gS<w.heap.size):
  Calls Tryz.prog 107 #[.slice (some ⟨gS,0,none⟩) 8 cS,.string bs] w fun e w'=> ∃g c,e= .returned (.slice (some ⟨g,0,none⟩) 8 c)∧w.heap.size≤g∧(∀j v,(ints .u32 (mixL s b))[j]? =some v→w'.cell? ⟨g,j,none⟩=some v)∧Below w.heap.size w w':=by
 have HS:=Lib.hid hs
 have HSD:=Lib.hid hsd
 have HBL:=Lib.hid hbl
 have HB:=Lib.hid hb
 have HBD:=Lib.hid hbd
 have HSC:=Lib.hid hS
 clear hs hsd hbl hb hbd hS
 go_enter Tryz.func107,Tryz.ntmps107
 go_wp2_with(first
  |(go_at_call 141;refine(refWords_any _).mono ?_;rintro e w1 ⟨gK,rfl,hgK,hbK,hgr1⟩;have hB1:=(Below.refl _ w).grown hgr1 (Nat.le_refl _) (by simp);clear hgr1))
 obtain⟨i0,hi0,hz0,hz1,hz2⟩:=info_parts info33
 obtain⟨B,hBd⟩: ∃B,B=w1.heap.size:=⟨_,rfl⟩
 have hown0:w1.ownsRow B 124 1 (.slice none 0 0) 0 []:=⟨by decide,Or.inl ⟨rfl,rfl⟩⟩
 have hBel0:Below B w1 w1:=Below.refl _ _
 have HBDD:=Lib.hid hBd
 have HBK:=Lib.hid hbK
 have hgK:gK<B:=by rw[hBd];exact hbK.lt
 clear hBd hbK
 go_loopw[6,7] (fun v i wr=> ∃k:Nat,k≤64∧i= .int .i64 k∧wr.ownsRow B 124 1 v k (ints .u32 (zav b k))∧Below B w1 wr) (fun _ i _=>64-(intOf i).toNat)
 case atStart=>exact⟨0,by omega,rfl,hown0,hBel0⟩
 case round=>
  clear hown0 hBel0
  obtain⟨k,hk,rfl,hown,hbel⟩:=hrel
  by_cases hlt:k<64
  ·by_cases h16:k<16
   ·have HOWN:=Lib.hid hown
    have HBEL:=Lib.hid hbel
    clear hown hbel
    go_wp2_with fail
    rw[show decide ((k:Int)<64)=true from decide_eq_true (by omega),show decide ((k:Int)<16)=true from decide_eq_true (by omega)]
    go_loopw[8,9] (fun x i wr'=> ∃j:Nat,j≤4∧x= .int .u32 (zeK b k j)∧i= .int .i64 j∧wr'=wr) (fun _ i _=>4-(intOf i).toNat)
    case atStart=>exact⟨0,by omega,rfl,rfl,rfl⟩
    case round=>
     obtain⟨j,hj,rfl,rfl,rfl⟩:=hrel
     by_cases hj4:j<4
     ·have hbsz:=HBL.out
      have gx:=HB.out (4*k+j) (by omega)
      have gy:=HBD.out (4*k+j)
      have HWR:Hid (∀y,y=b.getD (4*k+j) 0→zeK b k (j+1)=(zeK b k j*256+y)%4294967296):=Lib.hid (fun y hy=>by rw[zeK,hy])
      obtain⟨y,hy⟩: ∃y,y=b.getD (4*k+j) 0:=⟨_,rfl⟩
      rw[←hy]at gx gy
      have HY:=Lib.hid hy
      clear hy
      obtain⟨z,hz⟩: ∃z,z=zeK b k j:=⟨_,rfl⟩
      rw[←hz]
      rw[←hz]at HWR
      clear hz
      go_wp2_with fail
      go_roundw
      case rel=>
       refine⟨j+1,by omega,?_,by go_num,trivial⟩
       rw[HWR.out y HY.out]
       exact congrArg (Value.int .u32) (by omega)
      case measure=>simp[intOf];omega
     ·have hj4':j=4:=by omega
      subst hj4'
      have hB:B≤wr.heap.size:=by have:=HBEL.out.size;rw[←HBDD.out]at this;exact this
      have HTK:Hid (∀_:Unit,ints .u32 (zav b k)++[.int .u32 (zeK b k 4)]=ints .u32 (zav b (k+1))):=Lib.hid (fun _=>by
       rw[zav,if_pos h16,zbK];rfl)
      have HBEL2:Hid (Below B w1 (wr.alloc (.cells #[.int .u32 (zeK b k 4)] 124))):=Lib.hid (HBEL.out.alloc hB _)
      obtain⟨x,hx⟩: ∃x,x=zeK b k 4:=⟨_,rfl⟩
      rw[←hx]at HTK HBEL2⊢
      clear hx
      go_wp2_with(first
       |(at_builtin;refine wpList_append_own _ rfl (.tmp 78) (.tmp 80) 166 rfl B 124 i0 (.int .u32 0) 1 4 Tryz.underlying166 hi0 hz0 hz1 hz2 rfl (by decide) _ k _ rfl (HOWN.out.alloc _) ⟨wr.heap.size,0,none⟩ 1 1 [.int .u32 x] rfl rfl ?c1 ?c2 ?c3 ?c4 ?c5 ?_))
      case c1=>exact cell_one_new _ _ _
      case c2=>intro u hu;rw[List.mem_singleton.1 hu];rfl
      case c3=>unfold maxLen;omega
      case c4=>omega
      case c5=>simp;omega
      intro v' w' hown' hgr _
      have HW:Hid (w'.ownsRow B 124 1 v' (k+1) (ints .u32 (zav b (k+1)))∧Below B w1 w'):=Lib.hid ⟨by rw[←HTK.out ()];exact hown',HBEL2.out.grown hgr (by simp;omega) (zdf HOWN.out)⟩
      clear hown' hgr
      go_wp2_with fail
      go_roundw
      case rel=>exact⟨k+1,by omega,by go_num,HW.out.1,HW.out.2⟩
      case measure=>simp[intOf];omega
   ·obtain⟨g,cap,rfl⟩: ∃g cap,u6= .slice (some ⟨g,0,none⟩) k cap:=by
     rcases hown.2 with⟨_,h0⟩|⟨g,cap,cur,h0,_⟩
     ·omega
     ·exact⟨g,cap,h0⟩
    have hcell: ∀i,i<k→wr.cell? ⟨g,i,none⟩=some (.int .u32 ((zav b k).getD i 0)):=fun i hi=>by
     rw[hown.cellAt i (by omega)];exact zaq .u32 (zav b k) i (by rw[length_wordsR];exact hi)
    have gp:=hcell (k-2) (by omega)
    have gq:=hcell (k-15) (by omega)
    have gr:=hcell (k-7) (by omega)
    have gs:=hcell (k-16) (by omega)
    have HOWN:=Lib.hid hown
    have HBEL:=Lib.hid hbel
    clear hown hbel hcell
    have bd: ∀i,i<k→0≤(zav b k).getD i 0∧(zav b k).getD i 0<4294967296:=fun i hi=>zjK b k i
    obtain⟨hp0,hp1⟩:=bd (k-2) (by omega)
    obtain⟨hq0,hq1⟩:=bd (k-15) (by omega)
    obtain⟨hr0,hr1⟩:=bd (k-7) (by omega)
    obtain⟨hs0,hs1⟩:=bd (k-16) (by omega)
    clear bd
    have HTK:Hid (ints .u32 (zav b k)++[.int .u32 (zhc (zav b k) k)]=ints .u32 (zav b (k+1))):=Lib.hid (by
     rw[zav,if_neg h16,zbK];rfl)
    have hnx:zhc (zav b k) k=(sig1 ((zav b k).getD (k-2) 0)+(zav b k).getD (k-7) 0+sig0 ((zav b k).getD (k-15) 0)+(zav b k).getD (k-16) 0)%4294967296:=rfl
    rw[hnx]at HTK
    obtain⟨p,hp⟩: ∃x,x=(zav b k).getD (k-2) 0:=⟨_,rfl⟩
    obtain⟨q,hq⟩: ∃x,x=(zav b k).getD (k-15) 0:=⟨_,rfl⟩
    obtain⟨r,hr⟩: ∃x,x=(zav b k).getD (k-7) 0:=⟨_,rfl⟩
    obtain⟨v,hv⟩: ∃x,x=(zav b k).getD (k-16) 0:=⟨_,rfl⟩
    rw[←hp]at hp0 hp1 gp HTK
    rw[←hq]at hq0 hq1 gq HTK
    rw[←hr]at hr0 hr1 gr HTK
    rw[←hv]at hs0 hs1 gs HTK
    clear hp hq hr hv hnx
    have cp17: ∀w,Calls Tryz.prog 142 #[.int .u32 p,.int .u64 17] w (fun e w'=>e= .returned (.int .u32 (rotr p 17))∧w=w'):=fun w=>zdV p 17 w hp0 hp1 (by omega) (by omega)
    have cp19: ∀w,Calls Tryz.prog 142 #[.int .u32 p,.int .u64 19] w (fun e w'=>e= .returned (.int .u32 (rotr p 19))∧w=w'):=fun w=>zdV p 19 w hp0 hp1 (by omega) (by omega)
    have cq7: ∀w,Calls Tryz.prog 142 #[.int .u32 q,.int .u64 7] w (fun e w'=>e= .returned (.int .u32 (rotr q 7))∧w=w'):=fun w=>zdV q 7 w hq0 hq1 (by omega) (by omega)
    have cq18: ∀w,Calls Tryz.prog 142 #[.int .u32 q,.int .u64 18] w (fun e w'=>e= .returned (.int .u32 (rotr q 18))∧w=w'):=fun w=>zdV q 18 w hq0 hq1 (by omega) (by omega)
    have dp17:=fun w=>(cp17 w).mono fun _ _ (hh:_∧_)=>(⟨hh.1,hh.2.symm⟩:_∧_)
    have dp19:=fun w=>(cp19 w).mono fun _ _ (hh:_∧_)=>(⟨hh.1,hh.2.symm⟩:_∧_)
    have dq7:=fun w=>(cq7 w).mono fun _ _ (hh:_∧_)=>(⟨hh.1,hh.2.symm⟩:_∧_)
    have dq18:=fun w=>(cq18 w).mono fun _ _ (hh:_∧_)=>(⟨hh.1,hh.2.symm⟩:_∧_)
    go_wp2_with fail
    go_quiet ((go_at_call 142;first|(with_reducible exact Calls.quiet_of_same (dp17 _))|(with_reducible exact Calls.quiet_of_same (dp19 _))|(with_reducible exact Calls.quiet_of_same (dq7 _))|(with_reducible exact Calls.quiet_of_same (dq18 _))))
    clear cp17 cp19 cq7 cq18 dp17 dp19 dq7 dq18 gp gq gr gs
    have HOWN2:Hid ((wr.drewN nq).ownsRow B 124 1 (.slice (some ⟨g,0,none⟩) k cap) k (ints .u32 (zav b k))):=Lib.hid HOWN.out
    have HBEL3:Hid (Below B w1 (wr.drewN nq)):=Lib.hid (zaw HBEL.out nq)
    clear HOWN HBEL
    generalize wr.drewN nq=wq at*
    have hB:B≤wq.heap.size:=by have:=HBEL3.out.size;rw[←HBDD.out]at this;exact this
    have hval:(((bits .xor .u32 (bits .xor .u32 (rotr p 17) (rotr p 19)) (p/1024)+r+bits .xor .u32 (bits .xor .u32 (rotr q 7) (rotr q 18)) (q/8))%4294967296+v)%4294967296)=(sig1 p+r+sig0 q+v)%4294967296:=by rw[sig1,sig0];omega
    rw[hval]
    clear hval
    obtain⟨x,hx⟩: ∃x,x=(sig1 p+r+sig0 q+v)%4294967296:=⟨_,rfl⟩
    rw[←hx]at HTK⊢
    clear hx
    have HBEL2:Hid (Below B w1 (wq.alloc (.cells #[.int .u32 x] 124))):=Lib.hid (HBEL3.out.alloc hB _)
    go_wp2_with(first
     |(at_builtin;refine wpList_append_own _ rfl (.tmp 78) (.tmp 80) 166 rfl B 124 i0 (.int .u32 0) 1 4 Tryz.underlying166 hi0 hz0 hz1 hz2 rfl (by decide) _ k _ rfl (HOWN2.out.alloc _) ⟨wq.heap.size,0,none⟩ 1 1 [.int .u32 x] rfl rfl ?c1 ?c2 ?c3 ?c4 ?c5 ?_))
    case c1=>exact cell_one_new _ _ _
    case c2=>intro u hu;rw[List.mem_singleton.1 hu];rfl
    case c3=>unfold maxLen;omega
    case c4=>omega
    case c5=>simp;omega
    intro v' w' hown' hgr _
    have HW:Hid (w'.ownsRow B 124 1 v' (k+1) (ints .u32 (zav b (k+1)))∧Below B w1 w'):=Lib.hid ⟨by rw[←HTK.out];exact hown',HBEL2.out.grown hgr (by simp;omega) (zdf HOWN2.out)⟩
    clear hown' hgr
    go_wp2_with fail
    go_roundw
    case rel=>exact⟨k+1,by omega,by go_num,HW.out.1,HW.out.2⟩
    case measure=>simp[intOf];omega
  ·have hk64:k=64:=by omega
   subst hk64
   obtain⟨gW,capW,rfl⟩: ∃g cap,u6= .slice (some ⟨g,0,none⟩) 64 cap:=by
    rcases hown.2 with⟨_,h0⟩|⟨g,cap,cur,h0,_⟩
    ·omega
    ·exact⟨g,cap,h0⟩
   have hgW:=hown.lt gW rfl
   have hSz:w.heap.size≤B:=by rw[HBDD.out];exact hB1.size
   have hBs:B≤wr.heap.size:=by have:=hbel.size;rw[←HBDD.out]at this;exact this
   have HOWN:=Lib.hid hown
   have HBEL:=Lib.hid hbel
   have hown2:(wr.alloc (.cells #[] 124)).ownsRow wr.heap.size 124 1 (.slice (some ⟨wr.heap.size,0,none⟩) 0 0) 0 []:=World.ownsRow_lit wr #[] 0 (Nat.le_refl _) (by unfold maxLen;omega) rfl
   have HOWN2:=Lib.hid hown2
   clear hown hbel hown2
   have HBW:Hid (Below w.heap.size w wr):=Lib.hid (hB1.trans ((by rw[←HBDD.out];exact HBEL.out:Below w1.heap.size w1 wr).mono hB1.size))
   go_wp2_with(first
    |(at_builtin;refine wpList_append_own _ rfl (.tmp 82) (.tmp 83) 166 rfl wr.heap.size 124 i0 (.int .u32 0) 1 4 Tryz.underlying166 hi0 hz0 hz1 hz2 rfl (by decide) _ 0 _ rfl HOWN2.out ⟨gS,0,none⟩ 8 cS (ints .u32 s) rfl ?c6 ?c7 ?c8 ?c9 ?c10 ?c11 ?_))
   case c6=>rw[length_ints,HS.out]
   case c7=>
    intro j u hu
    rw[Addr.add_mid,Nat.zero_add]
    exact((HBW.out.alloc HBW.out.size _).cell (p:=⟨gS,j,none⟩) hgS).trans (HSC.out j u hu)
   case c8=>exact zal _ _
   case c9=>unfold maxLen;omega
   case c10=>omega
   case c11=>simp
   intro v' w3 hown3 hgr3 _
   obtain⟨g0,c0,rfl⟩: ∃g cap,v'= .slice (some ⟨g,0,none⟩) 8 cap:=by
    rcases hown3.2 with⟨_,h0⟩|⟨g,cap,cur,h0,_⟩
    ·omega
    ·exact⟨g,cap,h0⟩
   have hb3:Below wr.heap.size wr w3:=(zad wr _).grown hgr3 (by simp) (zdf HOWN2.out)
   have HB3:Hid (Below w.heap.size w w3):=Lib.hid (HBW.out.trans (hb3.mono HBW.out.size))
   have HC0:Hid (∀j,j<8→w3.cell? ⟨g0,j,none⟩=some (.int .u32 (s.getD j 0))):=Lib.hid fun j hj=>by
    rw[hown3.cellAt j (by omega)];exact zaq .u32 s j (by rw[HS.out];exact hj)
   have hg0:g0<w3.heap.size:=(hown3.lt g0 rfl).2
   have HWC:Hid (∀i,i<64→w3.cell? ⟨gW,i,none⟩=some (.int .u32 ((zav b 64).getD i 0))):=Lib.hid fun i hi=>by
    rw[hb3.cell (p:=⟨gW,i,none⟩) hgW.2,HOWN.out.cellAt i (by omega)];exact zaq .u32 (zav b 64) i (by rw[length_wordsR];exact hi)
   have hgW3:gW<w3.heap.size:=Nat.lt_of_lt_of_le hgW.2 hb3.size
   have HKC:Hid (∀i,i<64→w3.cell? ⟨gK,i,none⟩=some (.int .u32 (rootsL.getD i 0))):=Lib.hid fun i hi=>by
    have hbk:Blk w3 gK 124 (ints .u32 rootsL):=(HBK.out.below HBEL.out hgK).below hb3 (by omega)
    rw[hbk.cell];exact zaq .u32 rootsL i (by rw[zfo];exact hi)
   have hgK3:gK<w3.heap.size:=by have:=hb3.size;omega
   obtain⟨W,hW⟩: ∃W,W=zav b 64:=⟨_,rfl⟩
   have HWB:Hid (∀i,0≤W.getD i 0∧W.getD i 0<4294967296):=Lib.hid fun i=>by rw[hW];exact zjK b 64 i
   have HWW:=Lib.hid hW
   rw[←hW]at HWC
   clear hown3 hgr3 hb3 HOWN HBEL HOWN2 hgW hW HBK
   go_wp2_with fail
   go_loopw[12,13] (fun v i wq=> ∃(k gk ck:Nat),k≤64∧i= .int .i64 k∧v= .slice (some ⟨gk,0,none⟩) 8 ck∧gk<wq.heap.size∧(∀j,j<8→wq.cell? ⟨gk,j,none⟩=some (.int .u32 ((rnds W s k).getD j 0)))∧Below w3.heap.size w3 wq) (fun _ i _=>64-(intOf i).toNat)
   case atStart=>exact⟨0,g0,c0,by omega,rfl,rfl,hg0,HC0.out,Below.refl _ _⟩
   case round=>
    clear HC0
    obtain⟨k,gk,ck,hk,rfl,rfl,hgk,hcl,hbel⟩:=hrel
    have HBQ:=Lib.hid hbel
    obtain⟨hRl,hRd⟩:=rnds_ok W s HS.out HSD.out k
    by_cases hk64:k<64
    ·have HNX:Hid (rnds W s (k+1)=rnd (rnds W s k) (rootsL.getD k 0) (W.getD k 0)):=Lib.hid rfl
     obtain⟨R,hR⟩: ∃R,R=rnds W s k:=⟨_,rfl⟩
     rw[←hR]at hRl hRd hcl HNX
     clear hR
     obtain⟨a,b',c,d,e,f,g,h',rfl⟩:=eight R hRl
     have ca:=hcl 0 (by omega);have cb:=hcl 1 (by omega);have cc:=hcl 2 (by omega);have cd:=hcl 3 (by omega)
     have ce:=hcl 4 (by omega);have cf:=hcl 5 (by omega);have cg:=hcl 6 (by omega);have ch:=hcl 7 (by omega)
     have da:=hRd 0;have db:=hRd 1;have dc:=hRd 2;have dd:=hRd 3;have de:=hRd 4;have df:=hRd 5;have dg:=hRd 6;have dh:=hRd 7
     simp only[List.getD_cons_zero,List.getD_cons_succ]at ca cb cc cd ce cf cg ch da db dc dd de df dg dh
     have ck1:=(hbel.cell (p:=⟨gK,k,none⟩) hgK3).trans (HKC.out k hk64)
     have cw1:=(hbel.cell (p:=⟨gW,k,none⟩) hgW3).trans (HWC.out k hk64)
     obtain⟨wt,hwt⟩: ∃x,x=W.getD k 0:=⟨_,rfl⟩
     obtain⟨kt,hkt⟩: ∃x,x=rootsL.getD k 0:=⟨_,rfl⟩
     rw[←hwt]at cw1 HNX
     rw[←hkt]at ck1 HNX
     have HRL:Hid ([a,b',c,d,e,f,g,h'].length=8):=Lib.hid hRl
     clear hcl hRd hRl hbel hwt hkt
     obtain⟨a0,a1⟩:=da;obtain⟨e0,e1⟩:=de
     obtain⟨b0,b1⟩:=db;obtain⟨c0',c1⟩:=dc;obtain⟨d0,d1⟩:=dd;obtain⟨f0,f1⟩:=df;obtain⟨g0',g1⟩:=dg;obtain⟨h0,h1⟩:=dh
     have te: ∀n:Nat,1≤n→n≤31→ ∀W,Calls Tryz.prog 142 #[.int .u32 e,.int .u64 (n:Int)] W (fun v w'=>v= .returned (.int .u32 (rotr e n))∧w'=W):=fun n h1 h2 W=>(zdV e n W e0 e1 h1 h2).mono fun _ _ hh=>⟨hh.1,hh.2.symm⟩
     have ta: ∀n:Nat,1≤n→n≤31→ ∀W,Calls Tryz.prog 142 #[.int .u32 a,.int .u64 (n:Int)] W (fun v w'=>v= .returned (.int .u32 (rotr a n))∧w'=W):=fun n h1 h2 W=>(zdV a n W a0 a1 h1 h2).mono fun _ _ hh=>⟨hh.1,hh.2.symm⟩
     have te6:=Lib.hid (te 6 (by omega) (by omega));have te11:=Lib.hid (te 11 (by omega) (by omega));have te25:=Lib.hid (te 25 (by omega) (by omega))
     have ta2:=Lib.hid (ta 2 (by omega) (by omega));have ta13:=Lib.hid (ta 13 (by omega) (by omega));have ta22:=Lib.hid (ta 22 (by omega) (by omega))
     clear te ta
     go_wp2_with fail
     go_quiet ((go_at_call 142;first|(with_reducible exact Calls.quiet_of_same (te6.out _))|(with_reducible exact Calls.quiet_of_same (te11.out _))|(with_reducible exact Calls.quiet_of_same (te25.out _))))
     go_wp2_with fail
     have ca2:(wr.drewN nq).cell? ⟨gk,0,none⟩=some (.int .u32 a):=ca
     have cb2:(wr.drewN nq).cell? ⟨gk,1,none⟩=some (.int .u32 b'):=cb
     have cc2:(wr.drewN nq).cell? ⟨gk,2,none⟩=some (.int .u32 c):=cc
     have cd2:(wr.drewN nq).cell? ⟨gk,3,none⟩=some (.int .u32 d):=cd
     have ce2:(wr.drewN nq).cell? ⟨gk,4,none⟩=some (.int .u32 e):=ce
     have cf2:(wr.drewN nq).cell? ⟨gk,5,none⟩=some (.int .u32 f):=cf
     have cg2:(wr.drewN nq).cell? ⟨gk,6,none⟩=some (.int .u32 g):=cg
     have HBQ2:Hid (Below w3.heap.size w3 (wr.drewN nq)):=Lib.hid (zaw HBQ.out nq)
     clear ca cb cc cd ce cf cg ch ck1 cw1 HBQ hgk
     generalize wr.drewN nq=wq2 at*
     go_quiet ((go_at_call 142;first|(with_reducible exact Calls.quiet_of_same (ta2.out _))|(with_reducible exact Calls.quiet_of_same (ta13.out _))|(with_reducible exact Calls.quiet_of_same (ta22.out _))))
     go_wp2_with fail
     have ca3:(wq2.drewN nq).cell? ⟨gk,0,none⟩=some (.int .u32 a):=ca2
     have cb3:(wq2.drewN nq).cell? ⟨gk,1,none⟩=some (.int .u32 b'):=cb2
     have cc3:(wq2.drewN nq).cell? ⟨gk,2,none⟩=some (.int .u32 c):=cc2
     have cd3:(wq2.drewN nq).cell? ⟨gk,3,none⟩=some (.int .u32 d):=cd2
     have ce3:(wq2.drewN nq).cell? ⟨gk,4,none⟩=some (.int .u32 e):=ce2
     have cf3:(wq2.drewN nq).cell? ⟨gk,5,none⟩=some (.int .u32 f):=cf2
     have cg3:(wq2.drewN nq).cell? ⟨gk,6,none⟩=some (.int .u32 g):=cg2
     have HBQ3:Hid (Below w3.heap.size w3 (wq2.drewN nq)):=Lib.hid (zaw HBQ2.out nq)
     clear ca2 cb2 cc2 cd2 ce2 cf2 cg2 HBQ2
     generalize wq2.drewN nq=wq3 at*
     go_still_tail 26,(by kernel_rfl)
     change wpList _ _ _ _ _ wq3.drew
     have HBQ4:Hid (Below w3.heap.size w3 wq3.drew):=Lib.hid HBQ3.out.drew
     clear ca3 cb3 cc3 cd3 ce3 cf3 cg3 HBQ3
     generalize wq3.drew=wq4 at*
     go_wp2_with fail
     go_roundw
     case rel=>
      refine⟨k+1,_,8,by omega,by go_num,rfl,by simp,fun j hj=> ?_,HBQ4.out.alloc HBQ4.out.size _⟩
      rw[HNX.out,cell_of_row _ _ _ _ _ _ (heap_alloc_new wq4 _)]
      match j,hj with
      |0,_=>exact congrArg (fun z=>some (Value.int .u32 z)) (by simp only[rnd,ziV,List.getD_cons_zero,show IntKind.u32.max=4294967295 from rfl];omega)
      |1,_=>rfl
      |2,_=>rfl
      |3,_=>rfl
      |4,_=>exact congrArg (fun z=>some (Value.int .u32 z)) (by simp only[rnd,ziV,List.getD_cons_zero,List.getD_cons_succ,show IntKind.u32.max=4294967295 from rfl];omega)
      |5,_=>rfl
      |6,_=>rfl
      |7,_=>rfl
     case measure=>simp[intOf];omega
    ·obtain rfl:k=64:=by omega
     rw[show(((64:Nat)):Int)=64 from rfl]
     have HMX:Hid (mixL s b=outR s (rnds W s 64) 8):=Lib.hid (by rw[HWW.out];exact mixL_ref s b HS.out HBD.out)
     obtain⟨R,hR⟩: ∃R,R=rnds W s 64:=⟨_,rfl⟩
     rw[←hR]at hRl hRd hcl HMX
     have HCL:=Lib.hid hcl
     have HRD:=Lib.hid hRd
     have hszq:w3.heap.size≤wr.heap.size:=hbel.size
     have hsz3:w.heap.size≤w3.heap.size:=HB3.out.size
     have HBT:Hid (Below w.heap.size w wr):=Lib.hid (HB3.out.trans (hbel.mono hsz3))
     obtain⟨w5,hw5⟩: ∃x,x=wr:=⟨_,rfl⟩
     rw[←hw5]at HBT HCL hgk⊢
     have hown0:w5.ownsRow w5.heap.size 124 1 (.slice none 0 0) 0 []:=World.ownsRow_nil _ _ _ _
     have HO0:=Lib.hid hown0
     clear hR hcl hRd hbel hw5 hown0 HBQ hRl hszq hsz3
     go_wp2_with fail
     go_loopw[16,17] (fun v i wq=> ∃j:Nat,j≤8∧i= .int .i64 j∧wq.ownsRow w5.heap.size 124 1 v j (ints .u32 (outR s R j))∧Below w5.heap.size w5 wq) (fun _ i _=>8-(intOf i).toNat)
     case atStart=>exact⟨0,by omega,rfl,HO0.out,Below.refl _ _⟩
     case round=>
      clear HO0
      obtain⟨j,hj,rfl,hown,hbel⟩:=hrel
      have HOW:=Lib.hid hown
      have HBE:=Lib.hid hbel
      by_cases hj8:j<8
      ·have c1:=(hbel.cell (p:=⟨gk,j,none⟩) hgk).trans (HCL.out j hj8)
       have c2:=((HBT.out.trans (hbel.mono HBT.out.size)).cell (p:=⟨gS,j,none⟩) hgS).trans (HSC.out j _ (zaq .u32 s j (by rw[HS.out];exact hj8)))
       obtain⟨r0,r1⟩:=HRD.out j
       obtain⟨s0,s1⟩:=HSD.out j
       have HNX:Hid (ints .u32 (outR s R j)++[.int .u32 ((R.getD j 0+s.getD j 0)%4294967296)]=ints .u32 (outR s R (j+1))):=Lib.hid (by rw[outR,zbK];rfl)
       obtain⟨x,hx⟩: ∃x,x=R.getD j 0:=⟨_,rfl⟩
       obtain⟨y,hy⟩: ∃y,y=s.getD j 0:=⟨_,rfl⟩
       rw[←hx]at c1 r0 r1 HNX
       rw[←hy]at c2 s0 s1 HNX
       clear hown hbel hx hy
       go_wp2_with fail
       have agk:u16.ownBlock≠some gk:=fun e=>by have:=zdf HOW.out gk e;exact absurd hgk (by omega)
       have ags:u16.ownBlock≠some gS:=fun e=>by have:=zdf HOW.out gS e;have:=HBT.out.size;omega
       have hszr:w5.heap.size≤wr.heap.size:=HBE.out.size
       have lgk:gk<wr.heap.size:=zfV c1
       have lgs:gS<wr.heap.size:=zfV c2
       have hj0:(0:Int)≤(j:Int):=by omega
       have hj1:(j:Int)<8:=by omega
       have hwr:IntKind.u32.wrap (x+y)=(x+y)%4294967296:=IntKind.wrap_u32 _
       go_region_held3(fun W=>W.cell? ⟨gk,j,none⟩=some (.int .u32 x)∧W.cell? ⟨gS,j,none⟩=some (.int .u32 y))
        (first
         |go_keep
         |(go_split_ands
           refine⟨?_,?_⟩
           ·(rw[hgrow.cell_far _ (by simp;omega) (Ne.symm agk)];assumption)
           ·(rw[hgrow.cell_far _ (by simp;omega) (Ne.symm ags)];assumption)))
        ((refine step_append_lies _ (by rfl) _ _ _ (by rfl) w5.heap.size 124 i0 _ 1 4 Tryz.underlying166 hi0 hz0 hz1 hz2 rfl (by omega) u16 j (ints .u32 (outR s R j)) (by rfl) ((HOW.out.alloc _).drew) ⟨wr.heap.size,0,none⟩ 1 1 [.int .u32 ((x+y)%4294967296)] (by rfl) (by rfl) (World.news_of_block (cs:= #[.int .u32 ((x+y)%4294967296)]) (t:=124) (fr:=(0,0)) (heap_alloc_new wr _)) (by simp[Value.oneCell']) (by omega) (by unfold maxLen;omega) (by omega) (by simp;omega) (wr.heap.size+1) (by simp) ?_;intro gg cap w1' hown1 hgrow hat hlt2))
       have hgr2:(wr.alloc (.cells #[.int .u32 ((x+y)%4294967296)] 124)).drew.grownBy w1' u16.ownBlock:=hgrow
       have HW:Hid (w1'.ownsRow w5.heap.size 124 1 (.slice (some ⟨gg,0,none⟩) (j+1) cap) (j+1) (ints .u32 (outR s R (j+1)))∧Below w5.heap.size w5 w1'):=Lib.hid ⟨by rw[←HNX.out];exact hown1,(HBE.out.alloc hszr _).drew.grown hgr2 (by simp;omega) (zdf HOW.out)⟩
       clear hwr hown1 hgrow hgr2 hat hlt2
       go_wp2_with fail
       go_roundw
       case rel=>exact⟨j+1,by omega,by go_num,HW.out.1,HW.out.2⟩
       case measure=>simp[intOf];omega
      ·obtain rfl:j=8:=by omega
       obtain⟨g8,c8,rfl⟩: ∃g cap,u16= .slice (some ⟨g,0,none⟩) 8 cap:=by
        rcases hown.2 with⟨_,h0⟩|⟨g,cap,cur,h0,_⟩
        ·omega
        ·exact⟨g,cap,h0⟩
       have hge:=zdf hown g8 rfl
       have HFIN:Hid (w.heap.size≤g8∧(∀j v,(ints .u32 (mixL s b))[j]? =some v→wr.cell? ⟨g8,j,none⟩=some v)∧Below w.heap.size w wr):=Lib.hid ⟨Nat.le_trans HBT.out.size hge,fun j v hv=>by
        rw[HMX.out]at hv
        have hj:=(List.getElem?_eq_some_iff.1 hv).1
        rw[length_ints,length_outR]at hj
        rw[hown.cellAt j (by omega)];exact hv,HBT.out.trans (hbel.mono HBT.out.size)⟩
       clear hown hbel HOW HBE hge
       go_wp2_with fail
       go_ret
       exact⟨g8,c8,rfl,HFIN.out⟩
theorem zgJ {w:World} {B e:Nat} {v:Value} {n:Nat} {xs:List Int} (h:w.ownsRow B e 1 v n (ints .u8 xs)) (hn:xs.length=n): ∃A c,v= .slice A n c∧n≤c∧Lies w A xs:=by
 have h0:=h
 rcases h.2 with⟨rfl,rfl⟩|⟨g,cap,cur,rfl,hb,hcell,hle,hm,_⟩
 ·exact⟨none,0,rfl,Nat.le_refl _,fun hp=>by omega⟩
 ·refine⟨_,cap,rfl,hle,fun _=>⟨g,0,rfl,?_,?_,fun j v hv=> ?_⟩⟩
  ·have:=(h0.lt g rfl).2;omega
  ·exact(h0.lt g rfl).2
  ·have hj:=(List.getElem?_eq_some_iff.1 hv).1
   rw[length_ints,hn]at hj
   rw[Nat.zero_add,h0.cellAt j (by omega)]
   exact hv
def txtD (D:List Int):ByteArray:=⟨(D.map fun x=>UInt8.ofNat x.toNat).toArray⟩
theorem zcv {D:List Int} (h:Bytes D):strL (txtD D)=D:=by
 simp only[strL,txtD,List.map_map]
 conv=>rhs;rw[←List.map_id D]
 refine List.map_congr_left fun x hx=> ?_
 have:=h.mem hx
 simp only[Function.comp,id]
 rw[UInt8.toNat_ofNat'];omega
theorem convR (A:Option Addr) (xs:List Int) (n c:Nat) (w:World) (hn:xs.length=n) (hl:Lies w A xs):
  (convert 46 9 (.slice A n c)).run Tryz.prog w= .ok (.string (txtD xs)) w:=by
 rw[run_convert_bytes_string w _ _ 5 _ _ _ Tryz.underlying46 Tryz.underlying5 Tryz.underlying9]
 cases A with
 |none=>
  have:xs=[]:=by
   rcases xs with _|⟨x,r⟩
   ·rfl
   ·obtain⟨b,o,h,_⟩:=hl (by simp)
    cases h
  subst this
  rfl
 |some ad=>
  have hcells: ∀j u,(ints .u8 xs)[j]? =some u→w.cell? (ad.add j)=some u:=fun j u hu=>by
   have hj:=(List.getElem?_eq_some_iff.1 hu).1
   rw[length_ints]at hj
   obtain⟨b,o,h,_,_,hc⟩:=hl (by omega)
   injection h with h
   subst h
   rw[Addr.add_mid]
   exact hc j u hu
  have hld:(loadCells ad n).run Tryz.prog w= .ok (ints .u8 xs).toArray w:=by
   have:=run_loadCells_list (P:=Tryz.prog) w ad (ints .u8 xs) hcells
   rw[length_ints,hn]at this;exact this
  rw[run_bytesToString w _ _ _ xs hld,foldl_push_bytes,show ByteArray.empty.data= #[]from rfl,Array.empty_append]
  rfl
theorem zdd (a b:ByteArray):strL (a++b)=strL a++strL b:=by
 simp only[strL,ByteArray.data_append,Array.toList_append,List.map_append]
theorem zmm (s:ByteArray) (a b:Nat):strL (s.extract a b)=((strL s).take b).drop a:=by
 simp only[strL,ByteArray.data_extract,Array.toList_extract,List.extract_eq_take_drop,List.map_take,List.map_drop,List.drop_take]
theorem zja (s:ByteArray) (k:Nat) (h:k<s.size):((s[k]'h).toNat:Int)=(strL s).getD k 0:=by
 have h2:k<s.data.toList.length:=by simpa using h
 rw[List.getD_eq_getElem?_getD,strL,List.getElem?_map,List.getElem?_eq_getElem h2]
 simp
 rfl
theorem shr8_eq (m:Int): ∀k,shr8 m k=m/2^(8*k)
 |0=>by simp[shr8]
 |k+1=>by
  rw[shr8,shr8_eq m k,Int.ediv_ediv_of_nonneg (by exact Int.pow_nonneg (by decide)),show 8*(k+1)=8*k+8 by omega,Int.pow_add];rfl
theorem cntR_get (m:Int) (t:Nat) (ht:t<8):(cntR m).getD t 0=m/2^(8*(7-t))%256:=by
 rw[←shr8_eq]
 match t,ht with
 |0,_=>rfl
 |1,_=>rfl
 |2,_=>rfl
 |3,_=>rfl
 |4,_=>rfl
 |5,_=>rfl
 |6,_=>rfl
 |7,_=>rfl
theorem gapR_ok (n:Nat):(n+gapR n+9)%64=0∧gapR n<64:=by
 unfold gapR;split<;>omega
theorem padR_bytes (n:Nat):Bytes (padR n):= .of_mem fun x hx=>by
 simp only[padR,List.mem_cons,List.mem_append,List.mem_replicate,cntR,List.not_mem_nil,or_false]at hx
 rcases hx with rfl|⟨_,rfl⟩|rfl|rfl|rfl|rfl|rfl|rfl|rfl|rfl<;>omega
def outB (F:List Int):Nat→List Int
 |0=>[]
 |j+1=>outB F j++[F.getD j 0/16777216,F.getD j 0/65536%256,F.getD j 0/256%256,F.getD j 0%256]
theorem zfW (F:List Int): ∀j,(outB F j).length=4*j
 |0=>rfl
 |j+1=>by rw[outB,List.length_append,zfW F j];simp;omega
theorem sbL_part (F:List Int): ∀k,k≤8→sbL F k=outB F k++List.replicate (32-4*k) 0
 |0,_=>rfl
 |k+1,h=>by
  have hA:=zfW F k
  have hs: ∀(T:List Int) (i:Nat) (x:Int),(outB F k++T).set (4*k+i) x=outB F k++T.set i x:=fun T i x=>by
   rw[List.set_append_right _ _ (by omega),hA,show 4*k+i-4*k=i by omega]
  have h0: ∀(T:List Int) (x:Int),(outB F k++T).set (4*k) x=outB F k++T.set 0 x:=fun T x=>hs T 0 x
  rw[sbL,sbL_part F k (by omega),show 32-4*k=(32-4*(k+1))+1+1+1+1 by omega]
  simp only[List.replicate_succ,h0,hs,List.set_cons_zero,List.set_cons_succ,outB,List.append_assoc,List.cons_append,List.nil_append]
theorem sbL_outB (F:List Int):sbL F 8=outB F 8:=by
 rw[sbL_part F 8 (Nat.le_refl _)];exact List.append_nil _
theorem cut64 (l:List Int) (j:Nat):(l.take (64*j+64)).drop (64*j)=(l.drop (64*j)).take 64:=by
 rw[List.drop_take];congr 1;omega
theorem zem (s:ByteArray) (w:World) (hs:s.size≤30000):
  Calls Tryz.prog 74 #[.string s] w fun e w'=>e= .returned (.string (txtD (zbX (strL s))))∧Below w.heap.size w w':=by
 obtain⟨i0,hi0,hz0,hz1,hz2⟩:=info_parts info5s
 obtain⟨gap,hgap⟩: ∃g,g=gapR s.size:=⟨_,rfl⟩
 have hgo:=gapR_ok s.size
 rw[←hgap]at hgo
 obtain⟨hg1,hg2⟩:=hgo
 have HGAP:=Lib.hid hgap
 have HG1:=Lib.hid hg1
 have hown0:(w.alloc (.cells #[.int .u8 128] 5)).ownsRow w.heap.size 5 1 (.slice (some ⟨w.heap.size,0,none⟩) 1 1) 1 [.int .u8 128]:=World.ownsRow_lit w #[.int .u8 128] 1 (Nat.le_refl _) (by unfold maxLen;omega) rfl
 have HO0:=Lib.hid hown0
 clear hgap hown0 hg1
 go_enter Tryz.func74,Tryz.ntmps74
 go_wp2_with fail
 go_loopw[4] (fun v wr=> ∃L:Nat,1≤L∧L≤gap+1∧wr.ownsRow w.heap.size 5 1 v L (ints .u8 (128::List.replicate (L-1) 0))∧Below w.heap.size w wr) (fun v _=>match v with| .slice _ m _=>200-m|_=>0)
 case atStart=>exact⟨1,by omega,by omega,HO0.out,zad _ _⟩
 case round=>
  clear HO0
  obtain⟨L,hL1,hL2,hown,hbel⟩:=hrel
  obtain⟨g,cap,rfl⟩: ∃g cap,u4= .slice (some ⟨g,0,none⟩) L cap:=by
   rcases hown.2 with⟨_,h0⟩|⟨g,cap,cur,h0,_⟩
   ·omega
   ·exact⟨g,cap,h0⟩
  have HOW:=Lib.hid hown
  have HBE:=Lib.hid hbel
  have hsz:w.heap.size≤wr.heap.size:=hbel.size
  clear hown hbel
  by_cases hlt:L<gap+1
  ·have hq:(((s.size:Int)+(L:Int)+8)%64!=0)=true:=by rw[bne_iff_ne];have:=HG1.out;omega
   have HNX:Hid (ints .u8 (128::List.replicate (L-1) 0)++[.int .u8 0]=ints .u8 (128::List.replicate (L+1-1) 0)):=Lib.hid (by
    rw[show L+1-1=(L-1)+1 by omega,List.replicate_succ',←List.cons_append,zbK];rfl)
   go_wp2_with(first
    |(at_builtin;refine wpList_append_own _ rfl (.tmp 20) (.tmp 21) 46 rfl w.heap.size 5 i0 (.int .u8 0) 1 1 Tryz.underlying46 hi0 hz0 hz1 hz2 rfl (by decide) _ L _ rfl (HOW.out.alloc _) ⟨wr.heap.size,0,none⟩ 1 1 [.int .u8 0] rfl rfl ?c1 ?c2 ?c3 ?c4 ?c5 ?_))
   case c1=>exact cell_one_new _ _ _
   case c2=>intro u hu;rw[List.mem_singleton.1 hu];rfl
   case c3=>unfold maxLen;omega
   case c4=>omega
   case c5=>simp;omega
   intro v' w' hown' hgr _
   have HW:Hid (w'.ownsRow w.heap.size 5 1 v' (L+1) (ints .u8 (128::List.replicate (L+1-1) 0))∧Below w.heap.size w w'):=Lib.hid ⟨by rw[←HNX.out];exact hown',(HBE.out.alloc hsz _).grown hgr (by simp;omega) (zdf HOW.out)⟩
   obtain⟨g',cap',rfl⟩: ∃g cap,v'= .slice (some ⟨g,0,none⟩) (L+1) cap:=by
    rcases hown'.2 with⟨_,h0⟩|⟨g,cap,cur,h0,_⟩
    ·omega
    ·exact⟨g,cap,h0⟩
   clear hown' hgr
   go_wp2_with fail
   go_roundw
   case rel=>exact⟨L+1,by omega,by omega,HW.out.1,HW.out.2⟩
   case measure=>simp;omega
  ·obtain rfl:L=gap+1:=by omega
   have hq:(((s.size:Int)+((gap:Int)+1)+8)%64!=0)=false:=by rw[bne_eq_false_iff_eq];have:=HG1.out;omega
   have HOP:Hid (wr.ownsRow w.heap.size 5 1 (.slice (some ⟨g,0,none⟩) (gap+1) cap) (gap+1) (ints .u8 (128::List.replicate gap 0))):=Lib.hid HOW.out
   clear HOW
   go_wp2_with fail
   go_loopw[4,5] (fun v i wq=> ∃t:Nat,t≤8∧i= .int .i64 (7-(t:Int))∧wq.ownsRow w.heap.size 5 1 v (gap+1+t) (ints .u8 ((128::List.replicate gap 0)++(cntR (s.size*8)).take t))∧Below w.heap.size w wq) (fun _ i _=>(intOf i+1).toNat)
   case atStart=>exact⟨0,by omega,rfl,by rw[List.take_zero,List.append_nil];exact HOP.out,HBE.out⟩
   case round=>
    clear HOP HBE
    obtain⟨t,ht,rfl,hown,hbel⟩:=hrel
    have HOW2:=Lib.hid hown
    have HBE2:=Lib.hid hbel
    have hsz2:w.heap.size≤wr.heap.size:=hbel.size
    clear hown hbel
    by_cases ht8:t<8
    ·have hk0:(0:Int)≤7-(t:Int):=by omega
     have HNX:Hid (ints .u8 ((128::List.replicate gap 0)++(cntR (s.size*8)).take t)++[.int .u8 ((s.size:Int)*8/2^(8*(7-t))%256)]=ints .u8 ((128::List.replicate gap 0)++(cntR (s.size*8)).take (t+1))):=Lib.hid (by
      rw[←cntR_get _ t ht8,List.take_add_one,List.getElem?_eq_getElem (show t<(cntR (s.size*8)).length from ht8),Option.toList_some,←List.append_assoc,zbK _ (_++_)]
      simp[ints,List.getD,show t<(cntR (s.size*8)).length from ht8])
     go_wp2_with(first
      |(at_builtin;refine wpList_append_own _ rfl (.tmp 27) (.tmp 36) 46 rfl w.heap.size 5 i0 (.int .u8 0) 1 1 Tryz.underlying46 hi0 hz0 hz1 hz2 rfl (by decide) _ (gap+1+t) _ rfl (HOW2.out.alloc _) ⟨wr.heap.size,0,none⟩ 1 1 [.int .u8 ((s.size:Int)*8/2^(8*(7-t))%256)] rfl rfl ?d1 ?d2 ?d3 ?d4 ?d5 ?_))
     case d1=>exact cell_one_new _ _ _
     case d2=>intro u hu;rw[List.mem_singleton.1 hu];rfl
     case d3=>unfold maxLen;omega
     case d4=>omega
     case d5=>simp;omega
     intro v' w' hown' hgr _
     have HW:Hid (w'.ownsRow w.heap.size 5 1 v' (gap+1+(t+1)) (ints .u8 ((128::List.replicate gap 0)++(cntR (s.size*8)).take (t+1)))∧Below w.heap.size w w'):=Lib.hid ⟨by rw[←HNX.out];exact hown',(HBE2.out.alloc hsz2 _).grown hgr (by simp;omega) (zdf HOW2.out)⟩
     clear hown' hgr
     go_wp2_with fail
     go_roundw
     case rel=>exact⟨t+1,by omega,by rw[show((t+1:Nat):Int)=(t:Int)+1 by omega,show(7:Int)-((t:Int)+1)=7-(t:Int)-1 by omega],HW.out.1,HW.out.2⟩
     case measure=>simp[intOf];omega
    ·obtain rfl:t=8:=by omega
     rw[show(7:Int)-((8:Nat):Int)= -1 from rfl]
     have hop:=HOW2.out
     have hpe:(128::List.replicate gap 0)++(cntR (s.size*8)).take 8=padR s.size:=by
      rw[List.take_of_length_le (show(cntR (s.size*8)).length≤8 from Nat.le_refl _),padR,HGAP.out];rfl
     rw[hpe]at hop
     have hpl:(padR s.size).length=gap+1+8:=by rw[length_padR,←HGAP.out]
     obtain⟨A,c,rfl,_,hlie⟩:=zgJ hop hpl
     have hcv:=convR A (padR s.size) (gap+1+8) c wr hpl hlie
     obtain⟨P,hP⟩: ∃P,P=txtD (padR s.size):=⟨_,rfl⟩
     rw[←hP]at hcv
     obtain⟨S,hS⟩: ∃S,s++P=S:=⟨_,rfl⟩
     have HSS:Hid (strL S=strL s++padR s.size):=Lib.hid (by rw[←hS,zdd,hP,zcv (padR_bytes _)])
     have hSs:S.size=s.size+(gap+9):=by rw[←zaQ,HSS.out,List.length_append,zaQ,hpl]
     have HNF:Hid (zby (strL S) (S.size/64)=finL (strL s)):=Lib.hid (by
      have:=absorb_pad (strL s)
      rw[zaQ,←HGAP.out]at this
      rw[HSS.out,hSs];exact this)
     have hS64:S.size%64=0:=by rw[hSs];have:=HG1.out;omega
     have hS3:S.size≤40000:=by omega
     have hsp:s.size+P.size≤9223372036854775807:=by rw[←ByteArray.size_append,hS];omega
     have HBW:Hid (Below w.heap.size w wr):=HBE2
     have HSZ:=Lib.hid hSs
     have hsz0:=HBW.out.size
     obtain⟨w5,hw5⟩: ∃x,x=wr:=⟨_,rfl⟩
     rw[←hw5]at hcv HBW hsz0⊢
     clear hop hpe hpl hlie hP hSs HOW2 HBE2 hw5 hsz2
     go_wp2_with fail
     go_loopw[6,7] (fun v i wq=> ∃(j gk ck:Nat),64*j≤S.size∧i= .int .i64 ((64*j:Nat):Int)∧v= .slice (some ⟨gk,0,none⟩) 8 ck∧gk<wq.heap.size∧(∀m u,(ints .u32 (zby (strL S) j))[m]? =some u→wq.cell? ⟨gk,m,none⟩=some u)∧Below w5.heap.size w5 wq) (fun _ i _=>S.size-(intOf i).toNat)
     case atStart=>exact⟨0,w5.heap.size,8,by omega,rfl,rfl,by simp,fun m u hu=>by
      rw[cell_of_row _ _ _ _ _ _ (heap_alloc_new w5 _)]
      show(ints .u32 startL).toArray[m]? =some u
      rw[List.getElem?_toArray];exact hu,zad _ _⟩
     case round=>
      obtain⟨j,gk,ck,hj,rfl,rfl,hgk,hcl,hbel⟩:=hrel
      have HCL:=Lib.hid hcl
      have HBE:=Lib.hid hbel
      clear hcl hbel
      obtain⟨a,ha⟩: ∃a,a=64*j:=⟨_,rfl⟩
      have HA:=Lib.hid ha
      rw[←ha]at hj⊢
      clear ha
      by_cases hlt:a<S.size
      ·have hltI:(a:Int)<(S.size:Int):=by omega
       have ha64:a+64≤S.size:=by have:=HA.out;omega
       have hbs:strL (S.extract a (a+64))=((strL S).drop (64*j)).take 64:=by rw[zmm,HA.out,cut64]
       have hbl:(S.extract a (a+64)).size=64:=by rw[←zaQ,hbs,List.length_take,List.length_drop,zaQ];have:=HA.out;omega
       have HONE:=Lib.hid (refOne_any (zby (strL S) j) (((strL S).drop (64*j)).take 64) gk ck (S.extract a (a+64)) wr (zbr _ _) (zeJ _ _) hbl (fun i hi=>by rw[zja,hbs]) (((zaz S).drop _).take _) HCL.out hgk)
       clear hbs hbl
       go_wp2_with(go_at_call 107;refine HONE.out.mono ?_;rintro e w6 ⟨g6,c6,rfl,hg6,hc6,hb6⟩;have H6:=Lib.hid (And.intro hc6 (HBE.out.trans (hb6.mono HBE.out.size)));clear hc6 hb6)
       have hg6':g6<w6.heap.size:=zfV (H6.out.1 0 _ (zaq .u32 _ 0 (by rw[zbc,zbr];decide)))
       go_roundw
       case rel=>exact⟨j+1,g6,c6,by have:=HA.out;omega,by rw[show 64*(j+1)=a+64 by have:=HA.out;omega];go_num,rfl,hg6',H6.out.1,H6.out.2⟩
       case measure=>simp[intOf];omega
      ·have hltI: ¬(a:Int)<(S.size:Int):=by omega
       have hjj:j=S.size/64:=by have:=HA.out;omega
       have HCF:Hid (∀m,m<8→wr.cell? ⟨gk,m,none⟩=some (.int .u32 ((finL (strL s)).getD m 0))):=Lib.hid fun m hm=>HCL.out m _ (by
        rw[hjj,HNF.out];exact zaq .u32 _ m (by rw[length_finL];exact hm))
       have HBT:Hid (Below w.heap.size w wr):=Lib.hid (HBW.out.trans (HBE.out.mono HBW.out.size))
       have HDG:Hid (zbX (strL s)=outB (finL (strL s)) 8):=Lib.hid (sbL_outB _)
       have hFB:=finL_bd (strL s)
       obtain⟨F,hF⟩: ∃F,F=finL (strL s):=⟨_,rfl⟩
       rw[←hF]at HCF HDG hFB
       have HFB:=Lib.hid hFB
       obtain⟨w7,hw7⟩: ∃x,x=wr:=⟨_,rfl⟩
       rw[←hw7]at HCF HBT hgk⊢
       have hown0:(w7.alloc (.cells #[] 5)).ownsRow w7.heap.size 5 1 (.slice (some ⟨w7.heap.size,0,none⟩) 0 0) 0 []:=World.ownsRow_lit w7 #[] 0 (Nat.le_refl _) (by unfold maxLen;omega) rfl
       have HO7:=Lib.hid hown0
       clear hjj hFB hF hw7 hown0 HCL HBE
       go_wp2_with fail
       go_loopw[8,9] (fun v i wq=> ∃m:Nat,m≤8∧i= .int .i64 m∧wq.ownsRow w7.heap.size 5 1 v (4*m) (ints .u8 (outB F m))∧Below w7.heap.size w7 wq) (fun _ i _=>8-(intOf i).toNat)
       case atStart=>exact⟨0,by omega,rfl,HO7.out,zad _ _⟩
       case round=>
        clear HO7
        obtain⟨m,hm,rfl,hown,hbel⟩:=hrel
        have HOW:=Lib.hid hown
        have HBE:=Lib.hid hbel
        by_cases hm8:m<8
        ·have c1:=(hbel.cell (p:=⟨gk,m,none⟩) hgk).trans (HCF.out m hm8)
         obtain⟨x0,x1⟩:=HFB.out m
         have HNX:Hid (ints .u8 (outB F m)++[.int .u8 (F.getD m 0/16777216),.int .u8 (F.getD m 0/65536%256),.int .u8 (F.getD m 0/256%256),.int .u8 (F.getD m 0%256)]=ints .u8 (outB F (m+1))):=Lib.hid (by rw[outB,zbK];rfl)
         obtain⟨x,hx⟩: ∃x,x=F.getD m 0:=⟨_,rfl⟩
         rw[←hx]at c1 x0 x1 HNX
         have agk:u8.ownBlock≠some gk:=fun e=>by have:=zdf HOW.out gk e;exact absurd hgk (by omega)
         have hszr:w7.heap.size≤wr.heap.size:=HBE.out.size
         have lgk:gk<wr.heap.size:=zfV c1
         have hm0:(0:Int)≤(m:Int):=by omega
         have hm1:(m:Int)<8:=by omega
         have w24:IntKind.u8.wrap (x/16777216)=x/16777216:=by rw[IntKind.wrap_u8];omega
         have w16:IntKind.u8.wrap (x/65536)=x/65536%256:=IntKind.wrap_u8 _
         have w08:IntKind.u8.wrap (x/256)=x/256%256:=IntKind.wrap_u8 _
         have w00:IntKind.u8.wrap x=x%256:=IntKind.wrap_u8 _
         clear hown hbel hx
         go_wp2_with fail
         go_region_held3(fun W=>W.cell? ⟨gk,m,none⟩=some (.int .u32 x))
          (first
           |go_keep
           |(rw[hgrow.cell_far _ (by simp;omega) (Ne.symm agk)];assumption))
          ((refine step_append_lies _ (by rfl) _ _ _ (by rfl) w7.heap.size 5 i0 _ 1 1 Tryz.underlying46 hi0 hz0 hz1 hz2 rfl (by omega) u8 (4*m) (ints .u8 (outB F m)) (by rfl) ((HOW.out.alloc _).drew) ⟨wr.heap.size,0,none⟩ 4 4 [.int .u8 (x/16777216),.int .u8 (x/65536%256),.int .u8 (x/256%256),.int .u8 (x%256)] (by rfl) (by rfl) (World.news_of_block (cs:= #[.int .u8 (x/16777216),.int .u8 (x/65536%256),.int .u8 (x/256%256),.int .u8 (x%256)]) (t:=5) (fr:=(0,0)) (heap_alloc_new wr _)) (by simp[Value.oneCell']) (by omega) (by unfold maxLen;omega) (by omega) (by simp;omega) (wr.heap.size+1) (by simp) ?_;intro gg cap w1' hown1 hgrow hat hlt2))
         have hgr2:(wr.alloc (.cells #[.int .u8 (x/16777216),.int .u8 (x/65536%256),.int .u8 (x/256%256),.int .u8 (x%256)] 5)).drew.grownBy w1' u8.ownBlock:=hgrow
         have HW:Hid (w1'.ownsRow w7.heap.size 5 1 (.slice (some ⟨gg,0,none⟩) (4*m+4) cap) (4*(m+1)) (ints .u8 (outB F (m+1)))∧Below w7.heap.size w7 w1'):=Lib.hid ⟨by rw[←HNX.out];exact hown1,(HBE.out.alloc hszr _).drew.grown hgr2 (by simp;omega) (zdf HOW.out)⟩
         clear w24 w16 w08 w00 hown1 hgrow hgr2 hat hlt2
         go_wp2_with fail
         go_roundw
         case rel=>exact⟨m+1,by omega,by go_num,HW.out.1,HW.out.2⟩
         case measure=>simp[intOf];omega
        ·obtain rfl:m=8:=by omega
         obtain⟨A2,c2,rfl,_,hl2⟩:=zgJ hown (zfW F 8)
         have hcv2:=convR A2 (outB F 8) (4*8) c2 wr (zfW F 8) hl2
         rw[←HDG.out]at hcv2
         have HFIN:Hid (Below w.heap.size w wr):=Lib.hid (HBT.out.trans (hbel.mono HBT.out.size))
         clear hown hbel HOW HBE hl2
         rw[show 4*8=32 from rfl]at hcv2⊢
         go_wp2_with fail
         go_ret
         exact⟨rfl,HFIN.out⟩
end Go.Proofs.YtceddodfddlncaaGreatDoor
