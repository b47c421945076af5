
import Derived.Test.YtlcljphbldjieaaGreatDoorJw08
import Derived.Test.YtlcljphbldjieaaGreatDoorJw21
set_option maxRecDepth 100000
set_option maxHeartbeats 16000000
set_option linter.all false
namespace Go.Proofs.YtlcljphbldjieaaGreatDoor
open Go Go.RowKit
theorem zft {w:World} {B e:Nat} {v:Value} {n:Nat} {xs:List Int} (h:w.ownsRow B e 1 v n (ints .u8 xs)) (hn:xs.length=n): ∃A c,v= .slice A n c∧n≤c∧Lies w A xs:=by
 have h0:=h
 rcases h.2 with⟨rfl,rfl⟩|⟨g,cap,cur,rfl,hb,hcell,hle,hm,_⟩
 ·exact⟨none,0,rfl,Nat.le_refl _,fun hp=>by omega⟩
 ·refine⟨_,cap,rfl,hle,fun _=>⟨g,0,rfl,?_,?_,fun j v hv=> ?_⟩⟩
  ·have:=(h0.lt g rfl).2;omega
  ·exact(h0.lt g rfl).2
  ·have hj:=(List.getElem?_eq_some_iff.1 hv).1
   rw[length_ints,hn]at hj
   rw[Nat.zero_add,h0.cellAt j (by omega)]
   exact hv
def txtD (D:List Int):ByteArray:=⟨(D.map fun x=>UInt8.ofNat x.toNat).toArray⟩
theorem zcs {D:List Int} (h:Bytes D):strL (txtD D)=D:=by
 simp only[strL,txtD,List.map_map]
 conv=>rhs;rw[←List.map_id D]
 refine List.map_congr_left fun x hx=> ?_
 have:=h.mem hx
 simp only[Function.comp,id]
 rw[UInt8.toNat_ofNat'];omega
theorem convR (A:Option Addr) (xs:List Int) (n c:Nat) (w:World) (hn:xs.length=n) (hl:Lies w A xs):
  (convert 31 9 (.slice A n c)).run Tryz.prog w= .ok (.string (txtD xs)) w:=by
 rw[run_convert_bytes_string w _ _ 5 _ _ _ Tryz.underlying31 Tryz.underlying5 Tryz.underlying9]
 cases A with
 |none=>
  have:xs=[]:=by
   rcases xs with _|⟨x,r⟩
   ·rfl
   ·obtain⟨b,o,h,_⟩:=hl (by simp)
    cases h
  subst this
  rfl
 |some ad=>
  have hcells: ∀j u,(ints .u8 xs)[j]? =some u→w.cell? (ad.add j)=some u:=fun j u hu=>by
   have hj:=(List.getElem?_eq_some_iff.1 hu).1
   rw[length_ints]at hj
   obtain⟨b,o,h,_,_,hc⟩:=hl (by omega)
   injection h with h
   subst h
   rw[Addr.add_mid]
   exact hc j u hu
  have hld:(loadCells ad n).run Tryz.prog w= .ok (ints .u8 xs).toArray w:=by
   have:=run_loadCells_list (P:=Tryz.prog) w ad (ints .u8 xs) hcells
   rw[length_ints,hn]at this;exact this
  rw[run_bytesToString w _ _ _ xs hld,foldl_push_bytes,show ByteArray.empty.data= #[]from rfl,Array.empty_append]
  rfl
theorem zdW (a b:ByteArray):strL (a++b)=strL a++strL b:=by
 simp only[strL,ByteArray.data_append,Array.toList_append,List.map_append]
theorem zmj (s:ByteArray) (a b:Nat):strL (s.extract a b)=((strL s).take b).drop a:=by
 simp only[strL,ByteArray.data_extract,Array.toList_extract,List.extract_eq_take_drop,List.map_take,List.map_drop,List.drop_take]
theorem zjX (s:ByteArray) (k:Nat) (h:k<s.size):((s[k]'h).toNat:Int)=(strL s).getD k 0:=by
 have h2:k<s.data.toList.length:=by simpa using h
 rw[List.getD_eq_getElem?_getD,strL,List.getElem?_map,List.getElem?_eq_getElem h2]
 simp
 rfl
theorem shr8_eq (m:Int): ∀k,shr8 m k=m/2^(8*k)
 |0=>by simp[shr8]
 |k+1=>by
  rw[shr8,shr8_eq m k,Int.ediv_ediv_of_nonneg (by exact Int.pow_nonneg (by decide)),show 8*(k+1)=8*k+8 by omega,Int.pow_add];rfl
theorem cntR_get (m:Int) (t:Nat) (ht:t<8):(cntR m).getD t 0=m/2^(8*(7-t))%256:=by
 rw[←shr8_eq]
 match t,ht with
 |0,_=>rfl
 |1,_=>rfl
 |2,_=>rfl
 |3,_=>rfl
 |4,_=>rfl
 |5,_=>rfl
 |6,_=>rfl
 |7,_=>rfl
theorem gapR_ok (n:Nat):(n+gapR n+9)%64=0∧gapR n<64:=by
 unfold gapR;split<;>omega
theorem padR_bytes (n:Nat):Bytes (padR n):= .of_mem fun x hx=>by
 simp only[padR,List.mem_cons,List.mem_append,List.mem_replicate,cntR,List.not_mem_nil,or_false]at hx
 rcases hx with rfl|⟨_,rfl⟩|rfl|rfl|rfl|rfl|rfl|rfl|rfl|rfl<;>omega
def outB (F:List Int):Nat→List Int
 |0=>[]
 |j+1=>outB F j++[F.getD j 0/16777216,F.getD j 0/65536%256,F.getD j 0/256%256,F.getD j 0%256]
theorem zex (F:List Int): ∀j,(outB F j).length=4*j
 |0=>rfl
 |j+1=>by rw[outB,List.length_append,zex F j];simp;omega
theorem sbL_part (F:List Int): ∀k,k≤8→sbL F k=outB F k++List.replicate (32-4*k) 0
 |0,_=>rfl
 |k+1,h=>by
  have hA:=zex F k
  have hs: ∀(T:List Int) (i:Nat) (x:Int),(outB F k++T).set (4*k+i) x=outB F k++T.set i x:=fun T i x=>by
   rw[List.set_append_right _ _ (by omega),hA,show 4*k+i-4*k=i by omega]
  have h0: ∀(T:List Int) (x:Int),(outB F k++T).set (4*k) x=outB F k++T.set 0 x:=fun T x=>hs T 0 x
  rw[sbL,sbL_part F k (by omega),show 32-4*k=(32-4*(k+1))+1+1+1+1 by omega]
  simp only[List.replicate_succ,h0,hs,List.set_cons_zero,List.set_cons_succ,outB,List.append_assoc,List.cons_append,List.nil_append]
theorem sbL_outB (F:List Int):sbL F 8=outB F 8:=by
 rw[sbL_part F 8 (Nat.le_refl _)];exact List.append_nil _
theorem cut64 (l:List Int) (j:Nat):(l.take (64*j+64)).drop (64*j)=(l.drop (64*j)).take 64:=by
 rw[List.drop_take];congr 1;omega
theorem zeh (s:ByteArray) (w:World) (hs:s.size≤30000):
  Calls Tryz.prog 138 #[.string s] w fun e w'=>e= .returned (.string (txtD (zbZ (strL s))))∧Below w.heap.size w w':=by
 obtain⟨i0,hi0,hz0,hz1,hz2⟩:=info_parts info5s
 obtain⟨gap,hgap⟩: ∃g,g=gapR s.size:=⟨_,rfl⟩
 have hgo:=gapR_ok s.size
 rw[←hgap]at hgo
 obtain⟨hg1,hg2⟩:=hgo
 have HGAP:=Lib.hid hgap
 have HG1:=Lib.hid hg1
 have hown0:(w.alloc (.cells #[.int .u8 128] 5)).ownsRow w.heap.size 5 1 (.slice (some ⟨w.heap.size,0,none⟩) 1 1) 1 [.int .u8 128]:=World.ownsRow_lit w #[.int .u8 128] 1 (Nat.le_refl _) (by unfold maxLen;omega) rfl
 have HO0:=Lib.hid hown0
 clear hgap hown0 hg1
 go_enter Tryz.func138,Tryz.ntmps138
 go_wp2_with fail
 go_loopw[4] (fun v wr=> ∃L:Nat,1≤L∧L≤gap+1∧wr.ownsRow w.heap.size 5 1 v L (ints .u8 (128::List.replicate (L-1) 0))∧Below w.heap.size w wr) (fun v _=>match v with| .slice _ m _=>200-m|_=>0)
 case atStart=>exact⟨1,by omega,by omega,HO0.out,zad _ _⟩
 case round=>
  clear HO0
  obtain⟨L,hL1,hL2,hown,hbel⟩:=hrel
  obtain⟨g,cap,rfl⟩: ∃g cap,u4= .slice (some ⟨g,0,none⟩) L cap:=by
   rcases hown.2 with⟨_,h0⟩|⟨g,cap,cur,h0,_⟩
   ·omega
   ·exact⟨g,cap,h0⟩
  have HOW:=Lib.hid hown
  have HBE:=Lib.hid hbel
  have hsz:w.heap.size≤wr.heap.size:=hbel.size
  clear hown hbel
  by_cases hlt:L<gap+1
  ·have hq:(((s.size:Int)+(L:Int)+8)%64!=0)=true:=by rw[bne_iff_ne];have:=HG1.out;omega
   have HNX:Hid (ints .u8 (128::List.replicate (L-1) 0)++[.int .u8 0]=ints .u8 (128::List.replicate (L+1-1) 0)):=Lib.hid (by
    rw[show L+1-1=(L-1)+1 by omega,List.replicate_succ',←List.cons_append,zar];rfl)
   go_wp2_with(first
    |(at_builtin;refine wpList_append_own _ rfl (.tmp 20) (.tmp 21) 31 rfl w.heap.size 5 i0 (.int .u8 0) 1 1 Tryz.underlying31 hi0 hz0 hz1 hz2 rfl (by decide) _ L _ rfl (HOW.out.alloc _) ⟨wr.heap.size,0,none⟩ 1 1 [.int .u8 0] rfl rfl ?c1 ?c2 ?c3 ?c4 ?c5 ?_))
   case c1=>exact cell_one_new _ _ _
   case c2=>intro u hu;rw[List.mem_singleton.1 hu];rfl
   case c3=>unfold maxLen;omega
   case c4=>omega
   case c5=>simp;omega
   intro v' w' hown' hgr _
   have HW:Hid (w'.ownsRow w.heap.size 5 1 v' (L+1) (ints .u8 (128::List.replicate (L+1-1) 0))∧Below w.heap.size w w'):=Lib.hid ⟨by rw[←HNX.out];exact hown',(HBE.out.alloc hsz _).grown hgr (by simp;omega) (zca HOW.out)⟩
   obtain⟨g',cap',rfl⟩: ∃g cap,v'= .slice (some ⟨g,0,none⟩) (L+1) cap:=by
    rcases hown'.2 with⟨_,h0⟩|⟨g,cap,cur,h0,_⟩
    ·omega
    ·exact⟨g,cap,h0⟩
   clear hown' hgr
   go_wp2_with fail
   go_roundw
   case rel=>exact⟨L+1,by omega,by omega,HW.out.1,HW.out.2⟩
   case measure=>simp;omega
  ·obtain rfl:L=gap+1:=by omega
   have hq:(((s.size:Int)+((gap:Int)+1)+8)%64!=0)=false:=by rw[bne_eq_false_iff_eq];have:=HG1.out;omega
   have HOP:Hid (wr.ownsRow w.heap.size 5 1 (.slice (some ⟨g,0,none⟩) (gap+1) cap) (gap+1) (ints .u8 (128::List.replicate gap 0))):=Lib.hid HOW.out
   clear HOW
   go_wp2_with fail
   go_loopw[4,5] (fun v i wq=> ∃t:Nat,t≤8∧i= .int .i64 (7-(t:Int))∧wq.ownsRow w.heap.size 5 1 v (gap+1+t) (ints .u8 ((128::List.replicate gap 0)++(cntR (s.size*8)).take t))∧Below w.heap.size w wq) (fun _ i _=>(intOf i+1).toNat)
   case atStart=>exact⟨0,by omega,rfl,by rw[List.take_zero,List.append_nil];exact HOP.out,HBE.out⟩
   case round=>
    clear HOP HBE
    obtain⟨t,ht,rfl,hown,hbel⟩:=hrel
    have HOW2:=Lib.hid hown
    have HBE2:=Lib.hid hbel
    have hsz2:w.heap.size≤wr.heap.size:=hbel.size
    clear hown hbel
    by_cases ht8:t<8
    ·have hk0:(0:Int)≤7-(t:Int):=by omega
     have HNX:Hid (ints .u8 ((128::List.replicate gap 0)++(cntR (s.size*8)).take t)++[.int .u8 ((s.size:Int)*8/2^(8*(7-t))%256)]=ints .u8 ((128::List.replicate gap 0)++(cntR (s.size*8)).take (t+1))):=Lib.hid (by
      rw[←cntR_get _ t ht8,List.take_add_one,List.getElem?_eq_getElem (show t<(cntR (s.size*8)).length from ht8),Option.toList_some,←List.append_assoc,zar _ (_++_)]
      simp[ints,List.getD,show t<(cntR (s.size*8)).length from ht8])
     go_wp2_with(first
      |(at_builtin;refine wpList_append_own _ rfl (.tmp 27) (.tmp 36) 31 rfl w.heap.size 5 i0 (.int .u8 0) 1 1 Tryz.underlying31 hi0 hz0 hz1 hz2 rfl (by decide) _ (gap+1+t) _ rfl (HOW2.out.alloc _) ⟨wr.heap.size,0,none⟩ 1 1 [.int .u8 ((s.size:Int)*8/2^(8*(7-t))%256)] rfl rfl ?d1 ?d2 ?d3 ?d4 ?d5 ?_))
     case d1=>exact cell_one_new _ _ _
     case d2=>intro u hu;rw[List.mem_singleton.1 hu];rfl
     case d3=>unfold maxLen;omega
     case d4=>omega
     case d5=>simp;omega
     intro v' w' hown' hgr _
     have HW:Hid (w'.ownsRow w.heap.size 5 1 v' (gap+1+(t+1)) (ints .u8 ((128::List.replicate gap 0)++(cntR (s.size*8)).take (t+1)))∧Below w.heap.size w w'):=Lib.hid ⟨by rw[←HNX.out];exact hown',(HBE2.out.alloc hsz2 _).grown hgr (by simp;omega) (zca HOW2.out)⟩
     clear hown' hgr
     go_wp2_with fail
     go_roundw
     case rel=>exact⟨t+1,by omega,by rw[show((t+1:Nat):Int)=(t:Int)+1 by omega,show(7:Int)-((t:Int)+1)=7-(t:Int)-1 by omega],HW.out.1,HW.out.2⟩
     case measure=>simp[intOf];omega
    ·obtain rfl:t=8:=by omega
     rw[show(7:Int)-((8:Nat):Int)= -1 from rfl]
     have hop:=HOW2.out
     have hpe:(128::List.replicate gap 0)++(cntR (s.size*8)).take 8=padR s.size:=by
      rw[List.take_of_length_le (show(cntR (s.size*8)).length≤8 from Nat.le_refl _),padR,HGAP.out];rfl
     rw[hpe]at hop
     have hpl:(padR s.size).length=gap+1+8:=by rw[length_padR,←HGAP.out]
     obtain⟨A,c,rfl,_,hlie⟩:=zft hop hpl
     have hcv:=convR A (padR s.size) (gap+1+8) c wr hpl hlie
     obtain⟨P,hP⟩: ∃P,P=txtD (padR s.size):=⟨_,rfl⟩
     rw[←hP]at hcv
     obtain⟨S,hS⟩: ∃S,s++P=S:=⟨_,rfl⟩
     have HSS:Hid (strL S=strL s++padR s.size):=Lib.hid (by rw[←hS,zdW,hP,zcs (padR_bytes _)])
     have hSs:S.size=s.size+(gap+9):=by rw[←zaQ,HSS.out,List.length_append,zaQ,hpl]
     have HNF:Hid (zbv (strL S) (S.size/64)=finL (strL s)):=Lib.hid (by
      have:=absorb_pad (strL s)
      rw[zaQ,←HGAP.out]at this
      rw[HSS.out,hSs];exact this)
     have hS64:S.size%64=0:=by rw[hSs];have:=HG1.out;omega
     have hS3:S.size≤40000:=by omega
     have hsp:s.size+P.size≤9223372036854775807:=by rw[←ByteArray.size_append,hS];omega
     have HBW:Hid (Below w.heap.size w wr):=HBE2
     have HSZ:=Lib.hid hSs
     have hsz0:=HBW.out.size
     obtain⟨w5,hw5⟩: ∃x,x=wr:=⟨_,rfl⟩
     rw[←hw5]at hcv HBW hsz0⊢
     clear hop hpe hpl hlie hP hSs HOW2 HBE2 hw5 hsz2
     go_wp2_with fail
     go_loopw[6,7] (fun v i wq=> ∃(j gk ck:Nat),64*j≤S.size∧i= .int .i64 ((64*j:Nat):Int)∧v= .slice (some ⟨gk,0,none⟩) 8 ck∧gk<wq.heap.size∧(∀m u,(ints .u32 (zbv (strL S) j))[m]? =some u→wq.cell? ⟨gk,m,none⟩=some u)∧Below w5.heap.size w5 wq) (fun _ i _=>S.size-(intOf i).toNat)
     case atStart=>exact⟨0,w5.heap.size,8,by omega,rfl,rfl,by simp,fun m u hu=>by
      rw[cell_of_row _ _ _ _ _ _ (heap_alloc_new w5 _)]
      show(ints .u32 startL).toArray[m]? =some u
      rw[List.getElem?_toArray];exact hu,zad _ _⟩
     case round=>
      obtain⟨j,gk,ck,hj,rfl,rfl,hgk,hcl,hbel⟩:=hrel
      have HCL:=Lib.hid hcl
      have HBE:=Lib.hid hbel
      clear hcl hbel
      obtain⟨a,ha⟩: ∃a,a=64*j:=⟨_,rfl⟩
      have HA:=Lib.hid ha
      rw[←ha]at hj⊢
      clear ha
      by_cases hlt:a<S.size
      ·have hltI:(a:Int)<(S.size:Int):=by omega
       have ha64:a+64≤S.size:=by have:=HA.out;omega
       have hbs:strL (S.extract a (a+64))=((strL S).drop (64*j)).take 64:=by rw[zmj,HA.out,cut64]
       have hbl:(S.extract a (a+64)).size=64:=by rw[←zaQ,hbs,List.length_take,List.length_drop,zaQ];have:=HA.out;omega
       have HONE:=Lib.hid (refOne_any (zbv (strL S) j) (((strL S).drop (64*j)).take 64) gk ck (S.extract a (a+64)) wr (zbp _ _) (zdx _ _) hbl (fun i hi=>by rw[zjX,hbs]) (((zbl S).drop _).take _) HCL.out hgk)
       clear hbs hbl
       go_wp2_with(go_at_call 176;refine HONE.out.mono ?_;rintro e w6 ⟨g6,c6,rfl,hg6,hc6,hb6⟩;have H6:=Lib.hid (And.intro hc6 (HBE.out.trans (hb6.mono HBE.out.size)));clear hc6 hb6)
       have hg6':g6<w6.heap.size:=zew (H6.out.1 0 _ (zas .u32 _ 0 (by rw[zbY,zbp];decide)))
       go_roundw
       case rel=>exact⟨j+1,g6,c6,by have:=HA.out;omega,by rw[show 64*(j+1)=a+64 by have:=HA.out;omega];go_num,rfl,hg6',H6.out.1,H6.out.2⟩
       case measure=>simp[intOf];omega
      ·have hltI: ¬(a:Int)<(S.size:Int):=by omega
       have hjj:j=S.size/64:=by have:=HA.out;omega
       have HCF:Hid (∀m,m<8→wr.cell? ⟨gk,m,none⟩=some (.int .u32 ((finL (strL s)).getD m 0))):=Lib.hid fun m hm=>HCL.out m _ (by
        rw[hjj,HNF.out];exact zas .u32 _ m (by rw[length_finL];exact hm))
       have HBT:Hid (Below w.heap.size w wr):=Lib.hid (HBW.out.trans (HBE.out.mono HBW.out.size))
       have HDG:Hid (zbZ (strL s)=outB (finL (strL s)) 8):=Lib.hid (sbL_outB _)
       have hFB:=finL_bd (strL s)
       obtain⟨F,hF⟩: ∃F,F=finL (strL s):=⟨_,rfl⟩
       rw[←hF]at HCF HDG hFB
       have HFB:=Lib.hid hFB
       obtain⟨w7,hw7⟩: ∃x,x=wr:=⟨_,rfl⟩
       rw[←hw7]at HCF HBT hgk⊢
       have hown0:(w7.alloc (.cells #[] 5)).ownsRow w7.heap.size 5 1 (.slice (some ⟨w7.heap.size,0,none⟩) 0 0) 0 []:=World.ownsRow_lit w7 #[] 0 (Nat.le_refl _) (by unfold maxLen;omega) rfl
       have HO7:=Lib.hid hown0
       clear hjj hFB hF hw7 hown0 HCL HBE
       go_wp2_with fail
       go_loopw[8,9] (fun v i wq=> ∃m:Nat,m≤8∧i= .int .i64 m∧wq.ownsRow w7.heap.size 5 1 v (4*m) (ints .u8 (outB F m))∧Below w7.heap.size w7 wq) (fun _ i _=>8-(intOf i).toNat)
       case atStart=>exact⟨0,by omega,rfl,HO7.out,zad _ _⟩
       case round=>
        clear HO7
        obtain⟨m,hm,rfl,hown,hbel⟩:=hrel
        have HOW:=Lib.hid hown
        have HBE:=Lib.hid hbel
        by_cases hm8:m<8
        ·have c1:=(hbel.cell (p:=⟨gk,m,none⟩) hgk).trans (HCF.out m hm8)
         obtain⟨x0,x1⟩:=HFB.out m
         have HNX:Hid (ints .u8 (outB F m)++[.int .u8 (F.getD m 0/16777216),.int .u8 (F.getD m 0/65536%256),.int .u8 (F.getD m 0/256%256),.int .u8 (F.getD m 0%256)]=ints .u8 (outB F (m+1))):=Lib.hid (by rw[outB,zar];rfl)
         obtain⟨x,hx⟩: ∃x,x=F.getD m 0:=⟨_,rfl⟩
         rw[←hx]at c1 x0 x1 HNX
         have agk:u8.ownBlock≠some gk:=fun e=>by have:=zca HOW.out gk e;exact absurd hgk (by omega)
         have hszr:w7.heap.size≤wr.heap.size:=HBE.out.size
         have lgk:gk<wr.heap.size:=zew c1
         have hm0:(0:Int)≤(m:Int):=by omega
         have hm1:(m:Int)<8:=by omega
         have w24:IntKind.u8.wrap (x/16777216)=x/16777216:=by rw[IntKind.wrap_u8];omega
         have w16:IntKind.u8.wrap (x/65536)=x/65536%256:=IntKind.wrap_u8 _
         have w08:IntKind.u8.wrap (x/256)=x/256%256:=IntKind.wrap_u8 _
         have w00:IntKind.u8.wrap x=x%256:=IntKind.wrap_u8 _
         clear hown hbel hx
         go_wp2_with fail
         go_region_held3(fun W=>W.cell? ⟨gk,m,none⟩=some (.int .u32 x))
          (first
           |go_keep
           |(rw[hgrow.cell_far _ (by simp;omega) (Ne.symm agk)];assumption))
          ((refine step_append_lies _ (by rfl) _ _ _ (by rfl) w7.heap.size 5 i0 _ 1 1 Tryz.underlying31 hi0 hz0 hz1 hz2 rfl (by omega) u8 (4*m) (ints .u8 (outB F m)) (by rfl) ((HOW.out.alloc _).drew) ⟨wr.heap.size,0,none⟩ 4 4 [.int .u8 (x/16777216),.int .u8 (x/65536%256),.int .u8 (x/256%256),.int .u8 (x%256)] (by rfl) (by rfl) (World.news_of_block (cs:= #[.int .u8 (x/16777216),.int .u8 (x/65536%256),.int .u8 (x/256%256),.int .u8 (x%256)]) (t:=5) (fr:=(0,0)) (heap_alloc_new wr _)) (by simp[Value.oneCell']) (by omega) (by unfold maxLen;omega) (by omega) (by simp;omega) (wr.heap.size+1) (by simp) ?_;intro gg cap w1' hown1 hgrow hat hlt2))
         have hgr2:(wr.alloc (.cells #[.int .u8 (x/16777216),.int .u8 (x/65536%256),.int .u8 (x/256%256),.int .u8 (x%256)] 5)).drew.grownBy w1' u8.ownBlock:=hgrow
         have HW:Hid (w1'.ownsRow w7.heap.size 5 1 (.slice (some ⟨gg,0,none⟩) (4*m+4) cap) (4*(m+1)) (ints .u8 (outB F (m+1)))∧Below w7.heap.size w7 w1'):=Lib.hid ⟨by rw[←HNX.out];exact hown1,(HBE.out.alloc hszr _).drew.grown hgr2 (by simp;omega) (zca HOW.out)⟩
         clear w24 w16 w08 w00 hown1 hgrow hgr2 hat hlt2
         go_wp2_with fail
         go_roundw
         case rel=>exact⟨m+1,by omega,by go_num,HW.out.1,HW.out.2⟩
         case measure=>simp[intOf];omega
        ·obtain rfl:m=8:=by omega
         obtain⟨A2,c2,rfl,_,hl2⟩:=zft hown (zex F 8)
         have hcv2:=convR A2 (outB F 8) (4*8) c2 wr (zex F 8) hl2
         rw[←HDG.out]at hcv2
         have HFIN:Hid (Below w.heap.size w wr):=Lib.hid (HBT.out.trans (hbel.mono HBT.out.size))
         clear hown hbel HOW HBE hl2
         rw[show 4*8=32 from rfl]at hcv2⊢
         go_wp2_with fail
         go_ret
         exact⟨rfl,HFIN.out⟩
def xorM (K:List Int) (c:Int):List Int:=K.map fun x=>bits .xor .u8 x c
theorem xorK_part (K:List Int) (c:Int): ∀j,j≤K.length→xorK K c j=xorM (K.take j) c++K.drop j
 |0,_=>rfl
 |j+1,h=>by
  have ih:=xorK_part K c j (by omega)
  have hd:K.drop j=K.getD j 0::K.drop (j+1):=by
   rw[List.drop_eq_getElem_cons (by omega:j<K.length)]
   simp[List.getD,show j<K.length by omega]
  have hl:(xorM (K.take j) c).length=j:=by rw[xorM,List.length_map,List.length_take];omega
  have hg:(xorM (K.take j) c++K.drop j).getD j 0=K.getD j 0:=by
   rw[hd,List.getD_eq_getElem?_getD,List.getElem?_append_right (by rw[hl];omega),hl,Nat.sub_self];rfl
  have hgK:K.getD j 0=K[j]:=by rw[List.getD_eq_getElem?_getD,List.getElem?_eq_getElem (by omega:j<K.length)];rfl
  rw[xorK,ih,hg,List.set_append_right _ _ (by rw[hl];omega),hl,Nat.sub_self,hd,List.take_add_one,List.getElem?_eq_getElem (by omega:j<K.length),Option.toList_some,←hgK]
  simp only[xorM,List.map_append,List.map_cons,List.map_nil,List.set_cons_zero,List.append_assoc,List.cons_append,List.nil_append]
theorem xorK_all (K:List Int) (c:Int) (h:K.length=64):xorK K c 64=xorM K c:=by
 rw[xorK_part K c 64 (by omega),List.take_of_length_le (by omega),List.drop_eq_nil_of_le (by omega),List.append_nil]
def keyR (key:List Int):List Int:=if 64<key.length then zbZ key else key
theorem keyL_get (key:List Int) (i:Nat) (hi:i<64):(keyL key).getD i 0=if i<(keyR key).length then(keyR key).getD i 0 else 0:=by
 have hk:keyL key=splice (List.replicate 64 0) 0 (keyR key):=by
  unfold keyL keyR;split<;>rfl
 have hl:(keyR key).length≤64:=by
  unfold keyR;split
  ·rw[zaq];omega
  ·omega
 rw[hk]
 simp only[splice,List.take_zero,List.nil_append,Nat.zero_add,List.getD_eq_getElem?_getD]
 by_cases h:i<(keyR key).length
 ·rw[if_pos h,List.getElem?_append_left h]
 ·rw[if_neg h,List.getElem?_append_right (by omega),List.getElem?_drop,List.getElem?_replicate]
  split<;>rfl
theorem zfl (K:List Int) (c:Int):Bytes (xorM K c):= .of_mem fun x hx=>by
 obtain⟨y,_,rfl⟩:=List.mem_map.1 hx
 exact bits_u8 _ _ _
theorem zgf (K:List Int) (c:Int) (i:Nat) (h:i<K.length):ints .u8 (xorM (K.take i) c)++[.int .u8 (bits .xor .u8 (K.getD i 0) c)]=ints .u8 (xorM (K.take (i+1)) c):=by
 have hgK:K.getD i 0=K[i]:=by rw[List.getD_eq_getElem?_getD,List.getElem?_eq_getElem h];rfl
 rw[List.take_add_one,List.getElem?_eq_getElem h,Option.toList_some,←hgK]
 simp only[ints,xorM,List.map_append,List.map_cons,List.map_nil]
theorem ziq {B k:Nat} {v5 v6 v5' v6':Value} {w1 wr w2 w3:World} {o5 o6:Obj} {X5 X6 Y5 Y6:List Value} (h5:wr.ownsRow B 5 1 v5 k X5) (h6:wr.ownsRow B 5 1 v6 k X6) (hne:v5.ownBlock≠v6.ownBlock) (hbel:Below w1.heap.size w1 wr) (hB:B=w1.heap.size)
  (a5:w2.ownsRow B 5 1 v5' (k+1) Y5) (g5:(wr.alloc o5).grownBy w2 v5.ownBlock) (at5:v5'.ownBlock=v5.ownBlock∨v5'.ownBlock=some (wr.alloc o5).heap.size)
  (a6:w3.ownsRow B 5 1 v6' (k+1) Y6) (g6:(w2.alloc o6).grownBy w3 v6.ownBlock) (at6:v6'.ownBlock=v6.ownBlock∨v6'.ownBlock=some (w2.alloc o6).heap.size):
  w3.ownsRow B 5 1 v5' (k+1) Y5∧w3.ownsRow B 5 1 v6' (k+1) Y6∧v5'.ownBlock≠v6'.ownBlock∧Below w1.heap.size w1 w3:=by
 subst hB
 have hs1:=hbel.size
 have n56:v5'.ownBlock≠v6.ownBlock:=fun e=>by
  rcases at5 with h|h
  ·exact hne (h.symm.trans e)
  ·have:=(h6.lt _ (e.symm.trans h)).2
   simp at this;omega
 have hb2:Below w1.heap.size w1 w2:=(hbel.alloc hs1 _).grown g5 (by simp;omega) (zca h5)
 have hs2:=hb2.size
 have hb3:Below w1.heap.size w1 w3:=(hb2.alloc hs2 _).grown g6 (by simp;omega) (zca h6)
 refine⟨(a5.alloc o6).kept g6 (Or.inr n56),a6,fun e=> ?_,hb3⟩
 rcases at6 with h|h
 ·exact n56 (e.trans h)
 ·have:=(a5.lt _ (e.trans h)).2
  simp at this;omega
theorem size_txtD (D:List Int):(txtD D).size=D.length:=by simp[txtD,ByteArray.size]
theorem zer (a b:ByteArray) (w:World) (h:a.size+b.size≤9223372036854775807):(Op.stringOp .add a b).run Tryz.prog w= .ok (.string (a++b)) w:=by
 rw[run_string_add_sum w _ _ (by omega)]
theorem zle (key s:ByteArray) (k2:ByteArray) (w:World) (hk2:k2.size≤64) (hs:s.size≤20000) (hkey:strL k2=keyR (strL key)) (hbig:(64<key.size∧ ∀W,Calls Tryz.prog 138 #[.string key] W fun e w'=>e= .returned (.string k2)∧Below W.heap.size W w')∨(¬64<key.size∧k2=key)) (hkz:key.size≤9223372036854775807):
  Calls Tryz.prog 90 #[.string key,.string s] w fun e w'=>e= .returned (.string (txtD (macL (strL key) (strL s))))∧Below w.heap.size w w':=by
 obtain⟨i0,hi0,hz0,hz1,hz2⟩:=info_parts info5s
 have HKL:Hid (∀i,i<64→(keyL (strL key)).getD i 0=if i<k2.size then(strL k2).getD i 0 else 0):=Lib.hid fun i hi=>by rw[keyL_get _ i hi,←hkey,zaQ]
 have hlen:=zjx (strL key)
 have HML:Hid (macL (strL key) (strL s)=zbZ (xorM (keyL (strL key)) 92++zbZ (xorM (keyL (strL key)) 54++strL s))):=Lib.hid (by rw[macL,xorK_all _ _ hlen,xorK_all _ _ hlen])
 obtain⟨M,hM⟩: ∃M,M=macL (strL key) (strL s):=⟨_,rfl⟩
 rw[←hM]at HML⊢
 obtain⟨K,hK⟩: ∃K,K=keyL (strL key):=⟨_,rfl⟩
 rw[←hK]at HKL HML hlen
 have HLEN:=Lib.hid hlen
 clear hM hK hlen hkey
 have HB0:Hid (∀w1:World,Below w.heap.size w w1→ ∃B,B=w1.heap.size∧((w1.alloc (.cells #[] 5)).alloc (.cells #[] 5)).ownsRow B 5 1 (.slice (some ⟨w1.heap.size,0,none⟩) 0 0) 0 []∧((w1.alloc (.cells #[] 5)).alloc (.cells #[] 5)).ownsRow B 5 1 (.slice (some ⟨w1.heap.size+1,0,none⟩) 0 0) 0 []):=Lib.hid fun w1 _=>by
  refine⟨_,rfl,(World.ownsRow_lit w1 #[] 0 (Nat.le_refl _) (by unfold maxLen;omega) rfl).alloc _,?_⟩
  have:=World.ownsRow_lit (base:=w1.heap.size) (w1.alloc (.cells #[] 5)) #[] (e:=5) (size:=1) 0 (by simp) (by unfold maxLen;omega) rfl
  simpa using this
 rcases hbig with⟨hb,hsum⟩|⟨hb,rfl⟩
 ·have HSUM:=Lib.hid hsum
  clear hsum
  go_enter Tryz.func90,Tryz.ntmps90
  go_wp2_with(go_at_call 138;refine(HSUM.out _).mono ?_;rintro e w1 ⟨rfl,hb1⟩;have HB1:=Lib.hid hb1;clear hb1)
  obtain⟨B,hBB,ho5,ho6⟩:=HB0.out w1 HB1.out
  have HO:=Lib.hid (And.intro ho5 ho6)
  have HBB:=Lib.hid hBB
  clear ho5 ho6 hBB HB0
  go_loopw[5,6,7] (fun v5 v6 i wq=> ∃k:Nat,k≤64∧i= .int .i64 k∧wq.ownsRow B 5 1 v5 k (ints .u8 (xorM (K.take k) 54))∧wq.ownsRow B 5 1 v6 k (ints .u8 (xorM (K.take k) 92))∧v5.ownBlock≠v6.ownBlock∧Below w1.heap.size w1 wq) (fun _ _ i _=>64-(intOf i).toNat)
  case atStart=>exact⟨0,by omega,rfl,HO.out.1,HO.out.2,by simp[Value.ownBlock],(zad w1 _).trans ((zad _ _).mono (by simp))⟩
  case round=>
   clear HO
   obtain⟨k,hk,rfl,ho5,ho6,hne,hbel⟩:=hrel
   have H5:=Lib.hid ho5
   have H6:=Lib.hid ho6
   have HNE:=Lib.hid hne
   have HBE:=Lib.hid hbel
   have hBs:B≤wr.heap.size:=by rw[HBB.out];exact hbel.size
   clear ho5 ho6 hne hbel
   by_cases hlt:k<64
   ·have HX:=HKL.out k hlt
    have HN5:=Lib.hid (zgf K 54 k (by rw[HLEN.out];exact hlt))
    have HN6:=Lib.hid (zgf K 92 k (by rw[HLEN.out];exact hlt))
    obtain⟨x,hx⟩: ∃x,x=K.getD k 0:=⟨_,rfl⟩
    rw[←hx]at HX HN5 HN6
    obtain⟨y5,hy5⟩: ∃y,y=bits .xor .u8 x 54:=⟨_,rfl⟩
    obtain⟨y6,hy6⟩: ∃y,y=bits .xor .u8 x 92:=⟨_,rfl⟩
    have HY:=Lib.hid (And.intro hy5 hy6)
    rw[←hy5]at HN5
    rw[←hy6]at HN6
    have hfin:True:=trivial
    by_cases hks:k<k2.size
    ·have hxv:(k2[k].toNat:Int)=x:=by rw[HX,if_pos hks,zjX]
     have hz5:bits .xor .u8 (k2[k].toNat:Int) 54=y5:=by rw[hxv];exact hy5.symm
     have hz6:bits .xor .u8 (k2[k].toNat:Int) 92=y6:=by rw[hxv];exact hy6.symm
     clear HX hx hy5 hy6 hxv
     go_wp2_with(first
      |(at_builtin;refine wpList_append_own_at _ rfl (.tmp 27) (.tmp 30) 31 rfl B 5 i0 (.int .u8 0) 1 1 Tryz.underlying31 hi0 hz0 hz1 hz2 rfl (by decide) _ k _ rfl (H5.out.alloc _) ⟨wr.heap.size,0,none⟩ 1 1 [.int .u8 y5] rfl rfl (cell_one_new _ _ _) (by intro u hu;rw[List.mem_singleton.1 hu];rfl) (by unfold maxLen;omega) (by omega) (by simp;omega) ?_;intro v5' w2 hown5 hgr5 _ hat5;have HA5:=Lib.hid (And.intro hown5 (And.intro hgr5 hat5));have hB2:B≤w2.heap.size:=Nat.le_trans (by simp;omega) hgr5.size;have H62:=Lib.hid ((H6.out.alloc _).kept hgr5 (Or.inr (Ne.symm HNE.out)));clear hown5 hgr5 hat5;try go_frame)
      |(at_builtin;refine wpList_append_own_at _ rfl (.tmp 32) (.tmp 35) 31 rfl B 5 i0 (.int .u8 0) 1 1 Tryz.underlying31 hi0 hz0 hz1 hz2 rfl (by decide) _ k _ rfl (H62.out.alloc _) ⟨w2.heap.size,0,none⟩ 1 1 [.int .u8 y6] rfl rfl (cell_one_new _ _ _) (by intro u hu;rw[List.mem_singleton.1 hu];rfl) (by unfold maxLen;omega) (by omega) (by simp;omega) ?_;intro v6' w3 hown6 hgr6 _ hat6;have HA6:=Lib.hid (And.intro hown6 (And.intro hgr6 hat6));clear hown6 hgr6 hat6;try go_frame))
     have a5:=HA5.out.1
     have a6:=HA6.out.1
     rw[HN5.out]at a5
     rw[HN6.out]at a6
     have HST:=Lib.hid (ziq H5.out H6.out HNE.out HBE.out HBB.out a5 HA5.out.2.1 HA5.out.2.2 a6 HA6.out.2.1 HA6.out.2.2)
     exact⟨⟨k+1,by omega,by go_num,HST.out⟩,by simp[intOf];omega⟩
    ·have hxv:x=0:=by rw[HX,if_neg hks]
     have hz5:bits .xor .u8 0 54=y5:=by rw[hy5,hxv]
     have hz6:bits .xor .u8 0 92=y6:=by rw[hy6,hxv]
     clear HX hx hy5 hy6 hxv
     go_wp2_with(first
      |(at_builtin;refine wpList_append_own_at _ rfl (.tmp 27) (.tmp 30) 31 rfl B 5 i0 (.int .u8 0) 1 1 Tryz.underlying31 hi0 hz0 hz1 hz2 rfl (by decide) _ k _ rfl (H5.out.alloc _) ⟨wr.heap.size,0,none⟩ 1 1 [.int .u8 y5] rfl rfl (cell_one_new _ _ _) (by intro u hu;rw[List.mem_singleton.1 hu];rfl) (by unfold maxLen;omega) (by omega) (by simp;omega) ?_;intro v5' w2 hown5 hgr5 _ hat5;have HA5:=Lib.hid (And.intro hown5 (And.intro hgr5 hat5));have hB2:B≤w2.heap.size:=Nat.le_trans (by simp;omega) hgr5.size;have H62:=Lib.hid ((H6.out.alloc _).kept hgr5 (Or.inr (Ne.symm HNE.out)));clear hown5 hgr5 hat5;try go_frame)
      |(at_builtin;refine wpList_append_own_at _ rfl (.tmp 32) (.tmp 35) 31 rfl B 5 i0 (.int .u8 0) 1 1 Tryz.underlying31 hi0 hz0 hz1 hz2 rfl (by decide) _ k _ rfl (H62.out.alloc _) ⟨w2.heap.size,0,none⟩ 1 1 [.int .u8 y6] rfl rfl (cell_one_new _ _ _) (by intro u hu;rw[List.mem_singleton.1 hu];rfl) (by unfold maxLen;omega) (by omega) (by simp;omega) ?_;intro v6' w3 hown6 hgr6 _ hat6;have HA6:=Lib.hid (And.intro hown6 (And.intro hgr6 hat6));clear hown6 hgr6 hat6;try go_frame))
     have a5:=HA5.out.1
     have a6:=HA6.out.1
     rw[HN5.out]at a5
     rw[HN6.out]at a6
     have HST:=Lib.hid (ziq H5.out H6.out HNE.out HBE.out HBB.out a5 HA5.out.2.1 HA5.out.2.2 a6 HA6.out.2.1 HA6.out.2.2)
     exact⟨⟨k+1,by omega,by go_num,HST.out⟩,by simp[intOf];omega⟩
   ·obtain rfl:k=64:=by omega
    have hl54:(xorM K 54).length=64:=by rw[xorM,List.length_map,HLEN.out]
    have hl92:(xorM K 92).length=64:=by rw[xorM,List.length_map,HLEN.out]
    have h5:=H5.out
    have h6:=H6.out
    rw[List.take_of_length_le (by rw[HLEN.out];exact Nat.le_refl _)]at h5 h6
    obtain⟨A5,c5,rfl,_,hl5⟩:=zft h5 hl54
    obtain⟨A6,c6,rfl,_,hl6⟩:=zft h6 hl92
    rw[show((64:Nat):Int)=64 from rfl]
    have HC5:=Lib.hid (fun(W:World) (hW:Below wr.heap.size wr W)=>convR A5 (xorM K 54) 64 c5 W hl54 (hl5.below hW))
    have HC6:=Lib.hid (fun(W:World) (hW:Below wr.heap.size wr W)=>convR A6 (xorM K 92) 64 c6 W hl92 (hl6.below hW))
    obtain⟨S5,hS5⟩: ∃S,S=txtD (xorM K 54):=⟨_,rfl⟩
    obtain⟨S6,hS6⟩: ∃S,S=txtD (xorM K 92):=⟨_,rfl⟩
    rw[←hS5]at HC5
    rw[←hS6]at HC6
    obtain⟨T5,hT5⟩: ∃S,S5++s=S:=⟨_,rfl⟩
    have hT5l:strL T5=xorM K 54++strL s:=by rw[←hT5,zdW,hS5,zcs (zfl _ _)]
    have hT5s:T5.size=64+s.size:=by rw[←zaQ,hT5l,List.length_append,hl54,zaQ]
    have HS1:=Lib.hid (fun(W:World)=>zeh T5 W (by omega))
    obtain⟨D1,hD1⟩: ∃D,D=txtD (zbZ (strL T5)):=⟨_,rfl⟩
    rw[←hD1]at HS1
    obtain⟨T6,hT6⟩: ∃S,S6++D1=S:=⟨_,rfl⟩
    have hT6l:strL T6=xorM K 92++zbZ (xorM K 54++strL s):=by rw[←hT6,zdW,hS6,zcs (zfl _ _),hD1,zcs (zcX _),hT5l]
    have hT6s:T6.size=96:=by rw[←zaQ,hT6l,List.length_append,hl92,zaq]
    have HS2:Hid (∀W:World,Calls Tryz.prog 138 #[.string T6] W fun e w'=>e= .returned (.string (txtD M))∧Below W.heap.size W w'):=Lib.hid fun W=>by
     have:=zeh T6 W (by omega)
     rw[hT6l,←HML.out]at this
     exact this
    have hz1':S5.size+s.size≤9223372036854775807:=by rw[←ByteArray.size_append,hT5];omega
    have hz2':S6.size+D1.size≤9223372036854775807:=by rw[←ByteArray.size_append,hT6];omega
    have hadd1:=fun(W:World)=>zer S5 s W hz1'
    have hadd2:=fun(W:World)=>zer S6 D1 W hz2'
    rw[hT5]at hadd1
    rw[hT6]at hadd2
    have hc5:=HC5.out wr.drew ((Below.refl _ _).drew)
    have hc6:=HC6.out wr.drew ((Below.refl _ _).drew)
    have HBT:=Lib.hid (HB1.out.trans (HBE.out.mono HB1.out.size))
    clear hT5 hT6 hl54 hl92 h5 h6 hl5 hl6 hS5 hS6 hT5l hT5s hD1 hT6l hT6s H5 H6 HNE HBE
    go_wp2_with fail
    go_region_law(first
     |(go_simp;go_at_call 138;((with_reducible refine(HS1.out _).mono ?_);rintro e w8 ⟨rfl,hb8⟩;have HB8:=Lib.hid hb8;have hc6b:=HC6.out w8 (((Below.refl _ _).drew).trans hb8);clear hb8))
     |(go_simp;go_at_call 138;((with_reducible refine(HS2.out _).mono ?_);rintro e w9 ⟨rfl,hb9⟩;have HB9:=Lib.hid hb9;clear hb9)))
    all_goals
     go_wp2_with fail
     go_ret
     exact⟨rfl,(HBT.out.drew.trans (HB8.out.mono HBT.out.drew.size)).trans (HB9.out.mono (HBT.out.drew.trans (HB8.out.mono HBT.out.drew.size)).size)⟩
 ·obtain⟨w1,rfl⟩: ∃w1,w1=w:=⟨_,rfl⟩
  have HB1:Hid (Below w1.heap.size w1 w1):=Lib.hid (Below.refl _ _)
  go_enter Tryz.func90,Tryz.ntmps90
  go_wp2_with fail
  obtain⟨B,hBB,ho5,ho6⟩:=HB0.out w1 HB1.out
  have HO:=Lib.hid (And.intro ho5 ho6)
  have HBB:=Lib.hid hBB
  clear ho5 ho6 hBB HB0
  go_loopw[5,6,7] (fun v5 v6 i wq=> ∃k:Nat,k≤64∧i= .int .i64 k∧wq.ownsRow B 5 1 v5 k (ints .u8 (xorM (K.take k) 54))∧wq.ownsRow B 5 1 v6 k (ints .u8 (xorM (K.take k) 92))∧v5.ownBlock≠v6.ownBlock∧Below w1.heap.size w1 wq) (fun _ _ i _=>64-(intOf i).toNat)
  case atStart=>exact⟨0,by omega,rfl,HO.out.1,HO.out.2,by simp[Value.ownBlock],(zad w1 _).trans ((zad _ _).mono (by simp))⟩
  case round=>
   clear HO
   obtain⟨k,hk,rfl,ho5,ho6,hne,hbel⟩:=hrel
   have H5:=Lib.hid ho5
   have H6:=Lib.hid ho6
   have HNE:=Lib.hid hne
   have HBE:=Lib.hid hbel
   have hBs:B≤wr.heap.size:=by rw[HBB.out];exact hbel.size
   clear ho5 ho6 hne hbel
   by_cases hlt:k<64
   ·have HX:=HKL.out k hlt
    have HN5:=Lib.hid (zgf K 54 k (by rw[HLEN.out];exact hlt))
    have HN6:=Lib.hid (zgf K 92 k (by rw[HLEN.out];exact hlt))
    obtain⟨x,hx⟩: ∃x,x=K.getD k 0:=⟨_,rfl⟩
    rw[←hx]at HX HN5 HN6
    obtain⟨y5,hy5⟩: ∃y,y=bits .xor .u8 x 54:=⟨_,rfl⟩
    obtain⟨y6,hy6⟩: ∃y,y=bits .xor .u8 x 92:=⟨_,rfl⟩
    have HY:=Lib.hid (And.intro hy5 hy6)
    rw[←hy5]at HN5
    rw[←hy6]at HN6
    have hfin:True:=trivial
    by_cases hks:k<k2.size
    ·have hxv:(k2[k].toNat:Int)=x:=by rw[HX,if_pos hks,zjX]
     have hz5:bits .xor .u8 (k2[k].toNat:Int) 54=y5:=by rw[hxv];exact hy5.symm
     have hz6:bits .xor .u8 (k2[k].toNat:Int) 92=y6:=by rw[hxv];exact hy6.symm
     clear HX hx hy5 hy6 hxv
     go_wp2_with(first
      |(at_builtin;refine wpList_append_own_at _ rfl (.tmp 27) (.tmp 30) 31 rfl B 5 i0 (.int .u8 0) 1 1 Tryz.underlying31 hi0 hz0 hz1 hz2 rfl (by decide) _ k _ rfl (H5.out.alloc _) ⟨wr.heap.size,0,none⟩ 1 1 [.int .u8 y5] rfl rfl (cell_one_new _ _ _) (by intro u hu;rw[List.mem_singleton.1 hu];rfl) (by unfold maxLen;omega) (by omega) (by simp;omega) ?_;intro v5' w2 hown5 hgr5 _ hat5;have HA5:=Lib.hid (And.intro hown5 (And.intro hgr5 hat5));have hB2:B≤w2.heap.size:=Nat.le_trans (by simp;omega) hgr5.size;have H62:=Lib.hid ((H6.out.alloc _).kept hgr5 (Or.inr (Ne.symm HNE.out)));clear hown5 hgr5 hat5;try go_frame)
      |(at_builtin;refine wpList_append_own_at _ rfl (.tmp 32) (.tmp 35) 31 rfl B 5 i0 (.int .u8 0) 1 1 Tryz.underlying31 hi0 hz0 hz1 hz2 rfl (by decide) _ k _ rfl (H62.out.alloc _) ⟨w2.heap.size,0,none⟩ 1 1 [.int .u8 y6] rfl rfl (cell_one_new _ _ _) (by intro u hu;rw[List.mem_singleton.1 hu];rfl) (by unfold maxLen;omega) (by omega) (by simp;omega) ?_;intro v6' w3 hown6 hgr6 _ hat6;have HA6:=Lib.hid (And.intro hown6 (And.intro hgr6 hat6));clear hown6 hgr6 hat6;try go_frame))
     have a5:=HA5.out.1
     have a6:=HA6.out.1
     rw[HN5.out]at a5
     rw[HN6.out]at a6
     have HST:=Lib.hid (ziq H5.out H6.out HNE.out HBE.out HBB.out a5 HA5.out.2.1 HA5.out.2.2 a6 HA6.out.2.1 HA6.out.2.2)
     exact⟨⟨k+1,by omega,by go_num,HST.out⟩,by simp[intOf];omega⟩
    ·have hxv:x=0:=by rw[HX,if_neg hks]
     have hz5:bits .xor .u8 0 54=y5:=by rw[hy5,hxv]
     have hz6:bits .xor .u8 0 92=y6:=by rw[hy6,hxv]
     clear HX hx hy5 hy6 hxv
     go_wp2_with(first
      |(at_builtin;refine wpList_append_own_at _ rfl (.tmp 27) (.tmp 30) 31 rfl B 5 i0 (.int .u8 0) 1 1 Tryz.underlying31 hi0 hz0 hz1 hz2 rfl (by decide) _ k _ rfl (H5.out.alloc _) ⟨wr.heap.size,0,none⟩ 1 1 [.int .u8 y5] rfl rfl (cell_one_new _ _ _) (by intro u hu;rw[List.mem_singleton.1 hu];rfl) (by unfold maxLen;omega) (by omega) (by simp;omega) ?_;intro v5' w2 hown5 hgr5 _ hat5;have HA5:=Lib.hid (And.intro hown5 (And.intro hgr5 hat5));have hB2:B≤w2.heap.size:=Nat.le_trans (by simp;omega) hgr5.size;have H62:=Lib.hid ((H6.out.alloc _).kept hgr5 (Or.inr (Ne.symm HNE.out)));clear hown5 hgr5 hat5;try go_frame)
      |(at_builtin;refine wpList_append_own_at _ rfl (.tmp 32) (.tmp 35) 31 rfl B 5 i0 (.int .u8 0) 1 1 Tryz.underlying31 hi0 hz0 hz1 hz2 rfl (by decide) _ k _ rfl (H62.out.alloc _) ⟨w2.heap.size,0,none⟩ 1 1 [.int .u8 y6] rfl rfl (cell_one_new _ _ _) (by intro u hu;rw[List.mem_singleton.1 hu];rfl) (by unfold maxLen;omega) (by omega) (by simp;omega) ?_;intro v6' w3 hown6 hgr6 _ hat6;have HA6:=Lib.hid (And.intro hown6 (And.intro hgr6 hat6));clear hown6 hgr6 hat6;try go_frame))
     have a5:=HA5.out.1
     have a6:=HA6.out.1
     rw[HN5.out]at a5
     rw[HN6.out]at a6
     have HST:=Lib.hid (ziq H5.out H6.out HNE.out HBE.out HBB.out a5 HA5.out.2.1 HA5.out.2.2 a6 HA6.out.2.1 HA6.out.2.2)
     exact⟨⟨k+1,by omega,by go_num,HST.out⟩,by simp[intOf];omega⟩
   ·obtain rfl:k=64:=by omega
    have hl54:(xorM K 54).length=64:=by rw[xorM,List.length_map,HLEN.out]
    have hl92:(xorM K 92).length=64:=by rw[xorM,List.length_map,HLEN.out]
    have h5:=H5.out
    have h6:=H6.out
    rw[List.take_of_length_le (by rw[HLEN.out];exact Nat.le_refl _)]at h5 h6
    obtain⟨A5,c5,rfl,_,hl5⟩:=zft h5 hl54
    obtain⟨A6,c6,rfl,_,hl6⟩:=zft h6 hl92
    rw[show((64:Nat):Int)=64 from rfl]
    have HC5:=Lib.hid (fun(W:World) (hW:Below wr.heap.size wr W)=>convR A5 (xorM K 54) 64 c5 W hl54 (hl5.below hW))
    have HC6:=Lib.hid (fun(W:World) (hW:Below wr.heap.size wr W)=>convR A6 (xorM K 92) 64 c6 W hl92 (hl6.below hW))
    obtain⟨S5,hS5⟩: ∃S,S=txtD (xorM K 54):=⟨_,rfl⟩
    obtain⟨S6,hS6⟩: ∃S,S=txtD (xorM K 92):=⟨_,rfl⟩
    rw[←hS5]at HC5
    rw[←hS6]at HC6
    obtain⟨T5,hT5⟩: ∃S,S5++s=S:=⟨_,rfl⟩
    have hT5l:strL T5=xorM K 54++strL s:=by rw[←hT5,zdW,hS5,zcs (zfl _ _)]
    have hT5s:T5.size=64+s.size:=by rw[←zaQ,hT5l,List.length_append,hl54,zaQ]
    have HS1:=Lib.hid (fun(W:World)=>zeh T5 W (by omega))
    obtain⟨D1,hD1⟩: ∃D,D=txtD (zbZ (strL T5)):=⟨_,rfl⟩
    rw[←hD1]at HS1
    obtain⟨T6,hT6⟩: ∃S,S6++D1=S:=⟨_,rfl⟩
    have hT6l:strL T6=xorM K 92++zbZ (xorM K 54++strL s):=by rw[←hT6,zdW,hS6,zcs (zfl _ _),hD1,zcs (zcX _),hT5l]
    have hT6s:T6.size=96:=by rw[←zaQ,hT6l,List.length_append,hl92,zaq]
    have HS2:Hid (∀W:World,Calls Tryz.prog 138 #[.string T6] W fun e w'=>e= .returned (.string (txtD M))∧Below W.heap.size W w'):=Lib.hid fun W=>by
     have:=zeh T6 W (by omega)
     rw[hT6l,←HML.out]at this
     exact this
    have hz1':S5.size+s.size≤9223372036854775807:=by rw[←ByteArray.size_append,hT5];omega
    have hz2':S6.size+D1.size≤9223372036854775807:=by rw[←ByteArray.size_append,hT6];omega
    have hadd1:=fun(W:World)=>zer S5 s W hz1'
    have hadd2:=fun(W:World)=>zer S6 D1 W hz2'
    rw[hT5]at hadd1
    rw[hT6]at hadd2
    have hc5:=HC5.out wr.drew ((Below.refl _ _).drew)
    have hc6:=HC6.out wr.drew ((Below.refl _ _).drew)
    have HBT:=Lib.hid (HB1.out.trans (HBE.out.mono HB1.out.size))
    clear hT5 hT6 hl54 hl92 h5 h6 hl5 hl6 hS5 hS6 hT5l hT5s hD1 hT6l hT6s H5 H6 HNE HBE
    go_wp2_with fail
    go_region_law(first
     |(go_simp;go_at_call 138;((with_reducible refine(HS1.out _).mono ?_);rintro e w8 ⟨rfl,hb8⟩;have HB8:=Lib.hid hb8;have hc6b:=HC6.out w8 (((Below.refl _ _).drew).trans hb8);clear hb8))
     |(go_simp;go_at_call 138;((with_reducible refine(HS2.out _).mono ?_);rintro e w9 ⟨rfl,hb9⟩;have HB9:=Lib.hid hb9;clear hb9)))
    all_goals
     go_wp2_with fail
     go_ret
     exact⟨rfl,(HBT.out.drew.trans (HB8.out.mono HBT.out.drew.size)).trans (HB9.out.mono (HBT.out.drew.trans (HB8.out.mono HBT.out.drew.size)).size)⟩
theorem refMac_any (key s:ByteArray) (w:World) (hk:key.size≤5000) (hs:s.size≤20000):
  Calls Tryz.prog 90 #[.string key,.string s] w fun e w'=>e= .returned (.string (txtD (macL (strL key) (strL s))))∧Below w.heap.size w w':=by
 by_cases h:64<key.size
 ·refine zle key s (txtD (zbZ (strL key))) w (by rw[size_txtD,zaq];omega) hs (by rw[zcs (zcX _),keyR,if_pos (by rw[zaQ];exact h)]) (.inl ⟨h,fun W=>zeh key W (by omega)⟩) (by omega)
 ·exact zle key s key w (by omega) hs (by rw[keyR,if_neg (by rw[zaQ];exact h)]) (.inr ⟨h,rfl⟩) (by omega)
def bigK (k:KeyM):Bool:=decide (1000<k.1.size)||decide (1000<k.2.size)
def grK (ks:List KeyM):Bool:=decide (40<ks.length)||ks.any bigK
theorem any_drop (p:KeyM→Bool) (ks:List KeyM) {i:Nat} (h:i<ks.length):(ks.drop i).any p=(p ks[i]||(ks.drop (i+1)).any p):=by
 rw[List.drop_eq_getElem_cons h,List.any_cons]
theorem zmv (ks:List KeyM) (A:Option Addr) (n c:Nat) (w:World) (hn:ks.length=n) (hn9:n≤9223372036854775807) (hr:RingAt w A ks):
  Calls Tryz.prog 37 #[.slice A n c] w fun e w'=>e= .returned (.bool (grK ks))∧Below w.heap.size w w':=by
 have HN:=Lib.hid hn
 have HR:=Lib.hid hr
 by_cases h40:40<n
 case pos=>
  have h1:(40:Int)<(n:Int):=by omega
  have HG:Hid (grK ks=true):=Lib.hid (by unfold grK;rw[decide_eq_true (by rw[hn];exact h40)];rfl)
  rw[HG.out]
  clear hn hr
  go_enter Tryz.func37,Tryz.ntmps37
  go_wp2
  go_ret
  exact⟨rfl,Below.refl _ _⟩
 case neg=>
  have h1: ¬(40:Int)<(n:Int):=by omega
  have HG:Hid (grK ks=ks.any bigK):=Lib.hid (by unfold grK;rw[decide_eq_false (by rw[hn];exact h40)];rfl)
  rw[HG.out]
  obtain⟨R,hR⟩: ∃R,R=ks.any bigK:=⟨_,rfl⟩
  rw[←hR]
  have HRR:=Lib.hid hR
  clear hn hr hR HG
  go_enter Tryz.func37,Tryz.ntmps37
  go_wp2
  go_loopw[3] (fun i wr=> ∃k:Nat,k≤n∧i= .int .i64 (k:Int)∧R=(ks.drop k).any bigK∧Below w.heap.size w wr) (fun i _=>n-(intOf i).toNat)
  case atStart=>exact⟨0,Nat.zero_le _,rfl,HRR.out,Below.refl _ _⟩
  case round=>
   obtain⟨k,hk,rfl,hrun,hbel⟩:=hrel
   have HBE:=Lib.hid hbel
   have HRUN:=Lib.hid hrun
   clear hbel hrun
   by_cases hlt2:k<n
   ·have hkl:k<ks.length:=by rw[HN.out];exact hlt2
    obtain⟨b,o,rfl,_,x0,x1⟩:=(HR.out.below HBE.out).at hkl
    have HST:=Lib.hid (any_drop bigK ks hkl)
    obtain⟨q,hq⟩: ∃q,q=ks[k]:=⟨_,rfl⟩
    rw[←hq]at x0 x1 HST
    obtain⟨q1,q2⟩:=q
    have hi0:(0:Int)≤(k:Int):=by omega
    have hi1:(k:Int)<(n:Int):=by omega
    clear hq hkl
    by_cases b1:1000<q1.size
    ·have c1:(1000:Int)<(q1.size:Int):=by omega
     have HF:Hid (R=true):=Lib.hid (by rw[HRUN.out,HST.out];unfold bigK;rw[decide_eq_true b1];rfl)
     go_wp2
     go_ret
     exact⟨by rw[HF.out];rfl,HBE.out⟩
    ·have c1: ¬(1000:Int)<(q1.size:Int):=by omega
     by_cases b2:1000<q2.size
     ·have c2:(1000:Int)<(q2.size:Int):=by omega
      have HF:Hid (R=true):=Lib.hid (by rw[HRUN.out,HST.out];unfold bigK;rw[decide_eq_true b2,Bool.or_true];rfl)
      go_wp2
      go_ret
      exact⟨by rw[HF.out];rfl,HBE.out⟩
     ·have c2: ¬(1000:Int)<(q2.size:Int):=by omega
      have HF:Hid (R=(ks.drop (k+1)).any bigK):=Lib.hid (by rw[HRUN.out,HST.out,show bigK (q1,q2)=false by unfold bigK;rw[decide_eq_false b1,decide_eq_false b2];rfl,Bool.false_or])
      go_wp2
      go_roundw
      case rel=>exact⟨k+1,by omega,by go_num,HF.out,HBE.out⟩
      case measure=>simp[intOf];omega
   ·obtain rfl:k=n:=by omega
    have hi1: ¬(k:Int)<(k:Int):=by omega
    have HF:Hid (R=false):=Lib.hid (by rw[HRUN.out,List.drop_of_length_le (Nat.le_of_eq HN.out)];rfl)
    go_wp2
    go_ret
    exact⟨by rw[HF.out];rfl,HBE.out⟩
theorem zgn (ks:List KeyM) (A:Option Addr) (n c:Nat) (w:World) (hn:ks.length=n) (hn9:n≤9223372036854775807) (hr:RingAt w A ks):
  Calls Tryz.prog 41 #[.slice A n c] w fun e w'=>e= .returned (.bool (zcc ks))∧Below w.heap.size w w':=by
 have HN:=Lib.hid hn
 by_cases hlen:1≤n∧n≤4
 case neg=>
  have HR:Hid (zcc ks=false):=Lib.hid (ring_len (by rw[hn];exact hlen))
  rw[HR.out]
  by_cases h0:n=0
  ·subst h0
   go_enter Tryz.func41,Tryz.ntmps41
   go_wp2
   go_ret
   exact⟨rfl,Below.refl _ _⟩
  ·have e0:((n:Int)==0)=false:=by rw[beq_eq_false_iff_ne];omega
   have e1:(4:Int)<(n:Int):=by omega
   have e2: ¬(n:Int)=0:=by omega
   go_enter Tryz.func41,Tryz.ntmps41
   go_wp2
   go_ret
   exact⟨rfl,Below.refl _ _⟩
 case pos=>
  have HR:=Lib.hid hr
  obtain⟨l1,l2⟩:=hlen
  have e0:((n:Int)==0)=false:=by rw[beq_eq_false_iff_ne];omega
  have e1: ¬(4:Int)<(n:Int):=by omega
  have e2: ¬(n:Int)=0:=by omega
  have d1:decide ((4:Int)<(n:Int))=false:=decide_eq_false e1
  obtain⟨R,hRR⟩: ∃R,R=zcc ks:=⟨_,rfl⟩
  rw[←hRR]
  have HRR:=Lib.hid hRR
  clear hr hn hRR
  go_enter Tryz.func41,Tryz.ntmps41
  go_wp2
  go_loopw[3,4] (fun i _j wr=> ∃k:Nat,k≤n∧i= .int .i64 (k:Int)∧zkY ks k=true∧Below w.heap.size w wr) (fun i _ _=>n-(intOf i).toNat)
  case atStart=>exact⟨0,Nat.zero_le _,rfl,rfl,Below.refl _ _⟩
  case round=>
   obtain⟨k,hk,rfl,hfine,hbel⟩:=hrel
   have HBE:=Lib.hid hbel
   have HF:=Lib.hid hfine
   clear hbel hfine
   by_cases hlt2:k<n
   ·have hkl:k<ks.length:=by rw[HN.out];exact hlt2
    obtain⟨b,o,rfl,_,x0,x1⟩:=(HR.out.below HBE.out).at hkl
    have HS:=Lib.hid (zfv hkl)
    have HBD:Hid ((zgQ ks[k]&& !zda (ks.take k) ks[k].1)=false→R=false):=Lib.hid (fun h=>by rw[HRR.out];exact ring_bad hkl h)
    obtain⟨q,hq⟩: ∃q,q=ks[k]:=⟨_,rfl⟩
    rw[←hq]at x0 x1 HS HBD
    obtain⟨q1,q2⟩:=q
    have HQ:Hid (∀h:k<ks.length,(q1:ByteArray)=ks[k].1):=Lib.hid (fun _=>by rw[←hq])
    have hi0:(0:Int)≤(k:Int):=by omega
    have hi1:(k:Int)<(n:Int):=by omega
    have HNA:=Lib.hid (fun W:World=>zjh q1 W)
    obtain⟨nb,hnb⟩: ∃nb,nb=zbe (strL q1):=⟨_,rfl⟩
    have HRK:Hid (zgQ (q1,q2)=(nb&&decide (1≤q2.size∧q2.size≤128))):=Lib.hid (by rw[hnb];rfl)
    rw[←hnb]at HNA
    clear hq hkl hnb
    cases nb with
    |false=>
     have HF2:Hid (R=false):=Lib.hid (HBD.out (by rw[HRK.out];rfl))
     go_wp2_with(go_at_call 44;(with_reducible refine(HNA.out _).mono ?_);rintro e w' ⟨rfl,rfl⟩)
     go_ret
     exact⟨by rw[HF2.out];rfl,HBE.out⟩
    |true=>
     by_cases b1:q2.size<1
     ·have c1:(q2.size:Int)<1:=by omega
      have HF2:Hid (R=false):=Lib.hid (HBD.out (by rw[HRK.out,decide_eq_false (by omega)];rfl))
      go_wp2_with(go_at_call 44;(with_reducible refine(HNA.out _).mono ?_);rintro e w' ⟨rfl,rfl⟩)
      go_ret
      exact⟨by rw[HF2.out];rfl,HBE.out⟩
     ·have c1: ¬(q2.size:Int)<1:=by omega
      by_cases b2:128<q2.size
      ·have c2:(128:Int)<(q2.size:Int):=by omega
       have HF2:Hid (R=false):=Lib.hid (HBD.out (by rw[HRK.out,decide_eq_false (by omega)];rfl))
       go_wp2_with(go_at_call 44;(with_reducible refine(HNA.out _).mono ?_);rintro e w' ⟨rfl,rfl⟩)
       go_ret
       exact⟨by rw[HF2.out];rfl,HBE.out⟩
      ·have c2: ¬(128:Int)<(q2.size:Int):=by omega
       have HRT:Hid (zgQ (q1,q2)=true):=Lib.hid (by rw[HRK.out,decide_eq_true (by omega)];rfl)
       clear HRK
       go_wp2_with(go_at_call 44;(with_reducible refine(HNA.out _).mono ?_);rintro e w' ⟨rfl,rfl⟩)
       rename World=>wo
       go_loopw[4] (fun jv wx=> ∃x:Nat,x≤k∧jv= .int .i64 (x:Int)∧zda (ks.take k) q1=zda ((ks.take k).drop x) q1∧Below w.heap.size w wx) (fun jv _=>k-(intOf jv).toNat)
       case atStart=>exact⟨0,Nat.zero_le _,rfl,rfl,HBE.out⟩
       case round=>
        clear x0 x1
        obtain⟨x,hx,rfl,hrun,hbel⟩:=hrel
        have HBX:=Lib.hid hbel
        have HRUN:=Lib.hid hrun
        clear hbel hrun
        by_cases hxk:x<k
        ·have hxl:x<ks.length:=by have:=HN.out;omega
         have hkl:k<ks.length:=by have:=HN.out;omega
         obtain⟨b',o',e', -,y0, -⟩:=(HR.out.below HBX.out).at hxl
         injection e' with e'
         injection e' with e1' e2'
         subst e1';subst e2'
         obtain⟨b',o',e', -,z0, -⟩:=(HR.out.below HBX.out).at hkl
         injection e' with e'
         injection e' with e1' e2'
         subst e1';subst e2'
         rw[←HQ.out hkl]at z0
         have HST:Hid (zda (ks.take k) q1=(decide (ks[x].1=q1)||zda ((ks.take k).drop (x+1)) q1)):=Lib.hid (by
          rw[HRUN.out,List.drop_eq_getElem_cons (by rw[List.length_take];omega)]
          show(decide (((ks.take k)[x]'_).1=q1)||_)=_
          rw[List.getElem_take];rfl)
         obtain⟨t,ht⟩: ∃t,t=ks[x].1:=⟨_,rfl⟩
         rw[←ht]at y0 HST
         have hj0:(0:Int)≤(x:Int):=by omega
         have hj1:(x:Int)<(n:Int):=by omega
         have hj2:(x:Int)<(k:Int):=by omega
         have he:=zcx t q1
         obtain⟨bb,hbb⟩: ∃bb,bb=decide (t=q1):=⟨_,rfl⟩
         rw[←hbb]at he HST
         clear hxl hkl ht hbb
         go_wp2_with fail
         refine wp_region_held_drew (S:=fun X=>X.cell? ⟨b,o+x*2,none⟩=some (.string t)∧X.cell? ⟨b,o+k*2,none⟩=some (.string q1)) (by kernel_rfl) ⟨y0,z0⟩ (fun hHeld=> ?_)
         refine rgT 0 ?_
         try simp only[rgS]
         refine rgT 1 ?_
         try simp only[rgS]
         refine rgT 2 ?_
         try simp only[rgS]
         refine rgT 3 ?_
         try simp only[rgS]
         refine rgT 4 ?_
         try simp only[rgS]
         refine rgT 5 ?_
         try simp only[rgS]
         refine rgT 6 ?_
         try simp only[rgS]
         refine rgT 7 ?_
         try simp only[rgS]
         refine rgT 8 ?_
         try simp only[rgS]
         refine rgT 9 ?_
         try simp only[rgS]
         refine rgT 10 ?_
         try simp only[rgS]
         refine wpAnyH_done (by kernel_rfl) ?_ _
         clear hHeld
         cases bb with
         |true=>
          have HF2:Hid (R=false):=Lib.hid (HBD.out (by rw[HRT.out,HST.out];rfl))
          go_wp2
          go_ret
          exact⟨by rw[HF2.out];rfl,HBX.out.drew⟩
         |false=>
          go_wp2
          go_roundw
          case rel=>exact⟨x+1,by omega,by go_num,by rw[HST.out,Bool.false_or],HBX.out.drew⟩
          case measure=>simp[intOf];omega
        ·obtain rfl:x=k:=by omega
         have hj2: ¬(x:Int)<(x:Int):=by omega
         have HF2:Hid (zkY ks (x+1)=true):=Lib.hid (by
          rw[HS.out,HF.out,HRT.out,HRUN.out,List.drop_of_length_le (by rw[List.length_take];omega)];rfl)
         go_wp2
         go_roundw
         case rel=>exact⟨x+1,by omega,by go_num,HF2.out,HBX.out⟩
         case measure=>simp[intOf];omega
   ·obtain rfl:k=n:=by omega
    have hi1: ¬(k:Int)<(k:Int):=by omega
    have HF2:Hid (R=true):=Lib.hid (by rw[HRR.out];unfold zcc;rw[HN.out,HF.out,decide_eq_true ⟨l1,l2⟩];rfl)
    go_wp2
    go_ret
    exact⟨by rw[HF2.out];rfl,HBE.out⟩
end Go.Proofs.YtlcljphbldjieaaGreatDoor
