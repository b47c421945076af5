
import Derived.Laws.MakeOwn
import Derived.Test.YtceddodfddlncaaGreatDoorJv04
set_option maxRecDepth 100000
set_option maxHeartbeats 16000000
set_option linter.all false
namespace Go.Proofs.YtceddodfddlncaaGreatDoor
open Go Go.RowKit Tryz
def eH:=@congrArg
def fm:=@wpList_append_own
def gh:=@Option.some.inj
def gw:=@info_parts
def ik:=@Option.map_eq_some_iff
def im:=@Bool.not_eq_true
def ji:=@ntmps137
def jj:=@ntmps124
def jy:=@func124
def jD:=@func137
def jJ:=@wp_loop_rounds
def kb:=@bne_iff_ne
def kf:=@rounds_succ
def kn:=@Classical.em
def kC:=@ntmps134
def kD:=@ntmps139
def kM:=@Int.le_refl
def kX:=@func139
def k6:=@func134
def mz:=@ntmps80
def mQ:=@func80
def Jg (w:World) (g:Nat):Prop:=Blk w g 82 (c_ .u8 (List.replicate 32 0))
theorem ER (A B:Option Addr) (c d:Nat) (M xs:List Int) (w:World) (hc:M.length≤c) (hd:xs.length≤d) (hn:M.length<2305843009213693952) (hm:xs.length<1152921504606846976) (F:Bytes M) (hx:Bytes xs)
  (hl:Lies w A M) (aC:Lies w B xs) (ao:Tabs w):
  Calls prog 86 #[.slice A M.length c,.slice B xs.length d] w fun e w'=>e= .returned (.agg (c_ .u8 (nA M xs)).toArray)∧Below w.heap.size w w':=by
 have ag:=fun(W:World) (L:Below w.heap.size w W)=>vr A c M W hc hn F (hl.below L) (ao.below L)
 have bl:=fun(g:Nat)=>FF (P:=prog) 179 5 64 fa s5 g 0 (by omega)
 have bk:=fun(g:Nat)=>FF (P:=prog) 82 5 32 gG s5 g 0 (by omega)
 have ae:=dM (EU F)
 have G:=dM (MH M)
 obtain⟨K,hK⟩:=yaa (oT M)
 rw[←hK]at ag ae G
 have bg:=dM (fun _:Unit=>hK)
 have bf:=dM aC
 have HT:=dM ao
 have HX:=dM hx
 obtain⟨n,ap⟩:=yaa xs.length
 rw[←ap]at hd hm⊢
 have HN:=dM ap
 obtain⟨n0,aB⟩: ∃n,n=M.length:=⟨_,rfl⟩
 rw[←aB]at ag hc hn⊢
 clear aB hK hl aC ao F hx ap
 go_enter func86,ntmps86
 go_wp2_with(first
  |(refine nG rfl (some 4) rfl _ rfl _ z24 ?_;intro g4 w2 aZ X q;have L:=(dU _ w).grown q (dQ _) (by simp);clear q;try go_frame)
  |(go_at_call 119;refine(ag _ L).mono ?_;rintro e w3 ⟨rfl,N⟩;have am:=L.trans (N.mono L.size);have ax:=X.below N X.lt;clear N ag)
  |(refine nG rfl (some 5) rfl _ rfl _ FH ?_;intro R w4 aG V q;have bt:g4<R:=dX ax.lt aG;have bs:w.heap.size≤g4:=aZ;have bq:w.heap.size≤R:=dV am.size aG;have aA:=am.grown q am.size (by simp);have aP:=ax.grownN q;clear q L;try go_frame)
  |(refine nn rfl none rfl _ (.tmp 5) (.tmp 10) rfl R 0 (c_ .u8 K) rfl rfl _ _ V (by simp[G.out]) (by rw[vY,b_,G.out]) (oW _ _) ?_;intro w5 ad q;rw[nr _ _ (by simp[G.out])]at ad;have ak:=aA.grown q aA.size (by intro k F;injection F with F;omega);have aO:=aP.grown q (by intro h;injection h with h;omega);clear q;try go_frame)
  |(refine pO rfl (some 11) rfl _ (.tmp 5) rfl _ 0 rfl _ _ ad (c_ .u8 K) (by simp) _ fa rfl (by rw[vY,b_,G.out]) ?_;try go_frame)
  |(refine nG rfl (some 6) rfl _ rfl _ FH ?_;intro Q w6 aF U q;have br:R<Q:=dX ad.lt aF;have bo:w.heap.size≤Q:=dV ak.size aF;have az:=ak.grown q ak.size (by simp);have aN:=aO.grownN q;have aK:=ad.grownN q;clear q;try go_frame)
  |(refine nn rfl none rfl _ (.tmp 6) (.tmp 11) rfl Q 0 (c_ .u8 K) rfl rfl _ _ U (by simp[G.out]) (by rw[vY,b_,G.out]) (oW _ _) ?_;intro w7 au q;rw[nr _ _ (by simp[G.out])]at au;have aR:=az.grown q az.size (by intro k F;injection F with F;omega);have aM:=aN.grown q (by intro h;injection h with h;omega);have aJ:=aK.grown q (by intro h;injection h with h;omega);clear q;try go_frame))
 have H7:=dM (And.intro aR (And.intro aM (And.intro aJ au)))
 clear aR aM aJ au aO aN aK ad aP ax X V U az ak aA am
 go_loopw[12] (fun i wr=> ∃j:Nat,j≤64∧i= .int .i64 j∧Below w.heap.size w wr∧Blk wr g4 82 (c_ .u8 (List.replicate 32 0))∧Blk wr R 179 (c_ .u8 (n7 K 54 j))∧Blk wr Q 179 (c_ .u8 (n7 K 92 j))) (fun i _=>64-(intOf i).toNat)
 case atStart=>exact⟨0,by omega,rfl,H7.out.1,H7.out.2.1,H7.out.2.2.1,H7.out.2.2.2⟩
 case round=>
  obtain⟨j,hj,rfl,L,X,V,U⟩:=hrel
  by_cases af:j<64
  ·have gx:=pf .u8 (n7 K 54 j) j (by rw[nJ,G.out];exact af)
   have gy:=pf .u8 (n7 K 92 j) j (by rw[nJ,G.out];exact af)
   obtain⟨aX,aW⟩:=H5 ae.out 54 j j
   obtain⟨aV,aU⟩:=H5 ae.out 92 j j
   have aT:Hid (∀_:Unit,(c_ .u8 (n7 K 54 j)).set j (.int .u8 (bits .xor .u8 ((n7 K 54 j).getD j 0) 54))=c_ .u8 (n7 K 54 (j+1))):=dM (fun _=>by rw[BR];exact rfl)
   have aS:Hid (∀_:Unit,(c_ .u8 (n7 K 92 j)).set j (.int .u8 (bits .xor .u8 ((n7 K 92 j).getD j 0) 92))=c_ .u8 (n7 K 92 (j+1))):=dM (fun _=>by rw[BR];exact rfl)
   obtain⟨x,hx⟩:=yaa ((n7 K 54 j).getD j 0)
   obtain⟨y,hy⟩: ∃x,x=(n7 K 92 j).getD j 0:=⟨_,rfl⟩
   rw[←hx]at gx aX aW aT
   rw[←hy]at gy aV aU aS
   have GX:=dM gx
   have GY:=dM gy
   clear hx hy gx gy
   go_wp2_with(first
    |(refine FE rfl (some 17) rfl _ (.tmp 16) rfl R j rfl _ _ V (.int .u8 x) GX.out .u8 fc ?_)
    |(refine tm rfl none rfl _ (.tmp 19) (.tmp 18) rfl R j (.int .u8 (bits .xor .u8 x 54)) rfl rfl rfl _ _ V (by rw[b_,nJ,G.out];exact af) s5 ?_;intro wa ba q;have Y:=L.grown q L.size (by intro k F;injection F with F;omega);have aw:=X.grown q (by intro h;injection h with h;omega);have ab:=U.grown q (by intro h;injection h with h;omega);clear q;try go_frame)
    |(refine FE rfl (some 22) rfl _ (.tmp 21) rfl Q j rfl _ _ ab (.int .u8 y) GY.out .u8 fc ?_)
    |(refine tm rfl none rfl _ (.tmp 24) (.tmp 23) rfl Q j (.int .u8 (bits .xor .u8 y 92)) rfl rfl rfl _ _ ab (by rw[b_,nJ,G.out];exact af) s5 ?_;intro wb ah q;have ai:=Y.grown q Y.size (by intro k F;injection F with F;omega);have av:=aw.grown q (by intro h;injection h with h;omega);have aI:=ba.grown q (by intro h;injection h with h;omega);clear q;try go_frame))
   rw[aT.out ()]at aI
   rw[aS.out ()]at ah
   go_roundw
   case rel=>exact⟨j+1,by omega,by go_num,ai,av,aI,ah⟩
   case measure=>simp[intOf];omega
  ·have aD:j=64:=by omega
   have HI:Hid ((n7 K 54 64).length=64∧Bytes (n7 K 54 64)):=dM ⟨by rw[nJ,G.out],H5 ae.out 54 64⟩
   have HO:Hid ((n7 K 92 64).length=64∧Bytes (n7 K 92 64)):=dM ⟨by rw[nJ,G.out],H5 ae.out 92 64⟩
   rw[aD]at V U
   obtain⟨I,hI⟩:=yaa (n7 K 54 64)
   obtain⟨O,hO⟩: ∃I,I=n7 K 92 64:=⟨_,rfl⟩
   rw[←hI]at V HI
   rw[←hO]at U HO
   have bh:=dM (fun _:Unit=>hI)
   have bd:=dM (fun _:Unit=>hO)
   clear hI hO aD H7
   have ar:=fun(W:World) (aj:Below w.heap.size w W) (h5:Blk W R 179 (c_ .u8 I))=>uL (some ⟨R,0,none⟩) B 64 d I xs W (by rw[HI.out.1];omega) (by rw[←HN.out];exact hd) (by rw[HI.out.1,←HN.out];omega) HI.out.2 HX.out (Lies.whole h5) (bf.out.below aj) (HT.out.below aj) 46
   obtain⟨D,hD⟩:=yaa (pq (I++xs))
   have HD:Hid (D.length=32∧Bytes D):=dM ⟨by rw[hD,ww],by rw[hD];exact BU _⟩
   rw[←hD,HI.out.1,←HN.out]at ar
   have bj:=dM (fun _:Unit=>hD)
   clear hD
   have aq:=fun(W:World) (aj:Below w.heap.size w W) (Z:Nat) (h6:Blk W Q 179 (c_ .u8 O)) (h8:Blk W Z 82 (c_ .u8 D))=>uL (some ⟨Q,0,none⟩) (some ⟨Z,0,none⟩) 64 32 O D W (by rw[HO.out.1];omega) (by rw[HD.out.1];omega) (by rw[HO.out.1,HD.out.1];omega) HO.out.2 HD.out.2 (Lies.whole h6) (Lies.whole h8) (HT.out.below aj) 46
   obtain⟨E,hE⟩:=yaa (pq (O++D))
   have aa:E.length=32:=by rw[hE,ww]
   rw[←hE,HO.out.1,HD.out.1]at aq
   have HE:Hid (∀_:Unit,nA M xs=E):=dM (fun _=>by rw[hE,bj.out (),bd.out (),bh.out (),bg.out ()];rfl)
   clear hE
   have bm:decide ((j:Int)<64)=false:=by simp;omega
   go_wp2_with(first
    |(go_at_call 120;refine(ar _ L V).mono ?_;rintro e wa ⟨rfl,N⟩;have Y:=L.trans (N.mono L.size);have aw:=X.below N X.lt;have ab:=U.below N U.lt;clear N ar)
    |(refine nG rfl (some 8) rfl _ rfl _ z24 ?_;intro Z wb aE a7 q;have bp:Q<Z:=dX ab.lt aE;have bn:w.heap.size≤Z:=dV Y.size aE;have ai:=Y.grown q Y.size (by simp);have av:=aw.grownN q;have ah:=ab.grownN q;clear q Y;try go_frame)
    |(refine nn rfl none rfl _ (.tmp 8) (.tmp 29) rfl Z 0 (c_ .u8 D) rfl rfl _ _ a7 (by simp[HD.out.1]) (by rw[rP,b_,HD.out.1]) (oW _ _) ?_;intro wc aH q;rw[nr _ _ (by simp[HD.out.1])]at aH;have ay:=ai.grown q ai.size (by intro k F;injection F with F;omega);have aL:=av.grown q (by intro h;injection h with h;omega);have a8:=ah.grown q (by intro h;injection h with h;omega);clear q;try go_frame))
   have aY: ∀W,Jg W g4→(storeCells ⟨g4,0,none⟩ (c_ .u8 E) 0).run prog W= .ok () (W.setCells g4 0 (c_ .u8 E)):=fun W h=>by
    have:=run_storeCells_cells (P:=prog) g4 0 (c_ .u8 E) 0 W (fun j hj=>by simpa using((Blk.there (show Blk W g4 _ _ from h) 0 32 (by simp)) j (by rw[b_,aa]at hj;exact hj)).1) (fun j hj=>by simpa using((Blk.there (show Blk W g4 _ _ from h) 0 32 (by simp)) j (by rw[b_,aa]at hj;exact hj)).2) (oW _ _)
    simpa using this
   go_region_law(go_simp;go_at_call 120;refine(aq wc.drew ((dU _ w).trans ay).drew Z a8.drew aH.drew).mono ?_;rintro e wd ⟨rfl,N⟩;have bb:Jg wd g4:=(aL.drew).below N aL.lt;have aQ:=ay.drew.trans (N.mono ay.size))
   have h9:=Iy g4 _ (c_ .u8 E) 0 _ wd bb (by rw[b_,b_,aa,eQ];omega)
   rw[nr _ _ (by simp[aa])]at h9
   have bc:=aQ.grown h9.2 aQ.size (by intro k F;injection F with F;omega)
   have a6:=h9.1
   clear aY aq h9
   generalize wd.setCells g4 0 (c_ .u8 E)=w9 at*
   have bi:=dM aa
   clear aa
   go_wp2_with fail
   exact dW (v:= .agg (c_ .u8 E).toArray) (wv results86 _ _ g4 _ _ _ rfl a6 gG rfl (by rw[rP,b_,bi.out])) rfl ⟨by rw[HE.out ()],bc⟩
def CI (xs ys:List Int):Nat→Int
 |0=>0
 |k+1=>bits .or .u8 (CI xs ys k) (bits .xor .u8 (xs.getD k 0) (ys.getD k 0))
theorem vJ (q:BinOp) (x y:Int):0≤bits q .u8 x y∧bits q .u8 x y≤255:=by
 unfold bits;simp only[iz];omega
theorem CH (xs q:List Int): ∀k,0≤CI xs q k∧CI xs q k≤255
 |0=>⟨kM 0,by show(0:Int)≤255;decide⟩
 |k+1=>vJ _ _ _
theorem Kk (x:Int) (h0:0≤x) (h1:x≤255):((BitVec.ofInt 8 x).toNat:Int)=x:=by
 rw[iU]
 have:(x%((2^8:Nat):Int))=x:=by show x%256=x;omega
 rw[this];omega
theorem CJ (x y:Int) (B:0≤x∧x≤255) (hy:0≤y∧y≤255):bits .or .u8 x y=0↔x=0∧y=0:=by
 have F:=(BitVec.ofInt 8 x|||BitVec.ofInt 8 y).isLt
 have e:bits .or .u8 x y=((BitVec.ofInt 8 x|||BitVec.ofInt 8 y).toNat:Int):=by
  show IntKind.u8.wrap ((BitVec.ofInt 8 x|||BitVec.ofInt 8 y).toNat:Int)=_
  rw[iz];omega
 have E:=Kk x B.1 B.2
 have D:=Kk y hy.1 hy.2
 rw[e]
 constructor
 ·intro h
  have q:BitVec.ofInt 8 x|||BitVec.ofInt 8 y=0#8:=BitVec.eq_of_toNat_eq (by simpa using h)
  rw[BitVec.or_eq_zero_iff]at q
  rw[q.1]at E;rw[q.2]at D
  exact⟨by simpa using E.symm,by simpa using D.symm⟩
 ·rintro⟨rfl,rfl⟩;rfl
theorem zO (x y:Int) (q:0≤x∧x≤255) (hy:0≤y∧y≤255):bits .xor .u8 x y=0↔x=y:=by
 have F:=(BitVec.ofInt 8 x^^^BitVec.ofInt 8 y).isLt
 have e:bits .xor .u8 x y=((BitVec.ofInt 8 x^^^BitVec.ofInt 8 y).toNat:Int):=by
  show IntKind.u8.wrap ((BitVec.ofInt 8 x^^^BitVec.ofInt 8 y).toNat:Int)=_
  rw[iz];omega
 have D:=Kk x q.1 q.2
 have E:=Kk y hy.1 hy.2
 rw[e]
 constructor
 ·intro h
  have B:BitVec.ofInt 8 x^^^BitVec.ofInt 8 y=0#8:=BitVec.eq_of_toNat_eq (by simpa using h)
  rw[BitVec.xor_eq_zero_iff]at B
  rw[B]at D
  exact D.symm.trans E
 ·rintro rfl;simp
theorem ut {xs q:List Int} (B:Bytes xs) (hy:Bytes q): ∀k,CI xs q k=0↔ ∀i,i<k→xs.getD i 0=q.getD i 0
 |0=>by simp[CI]
 |k+1=>by
  rw[CI,CJ _ _ (CH _ _ _) (vJ _ _ _),zO _ _ (B k) (hy k),ut B hy k]
  constructor
  ·rintro⟨h1,D⟩ i hi
   rcases eX i k with h|h
   ·exact h1 i h
   ·obtain rfl:i=k:=by omega
    exact D
  ·intro h;exact⟨fun i hi=>h i (by omega),h k (by omega)⟩
theorem wZ {xs q:List Int} (B:Bytes xs) (hy:Bytes q) (D:xs.length=q.length):(CI xs q xs.length==0)=decide (xs=q):=by
 rw[iA,gm,eb,ut B hy]
 constructor
 ·intro h
  apply List.ext_getElem D
  intro i h1 E
  have:=h i h1
  simpa[h1,E]using this
 ·rintro rfl i _;rfl
def DL (xs ys:List Int) (w:World) (e:Ending) (w':World):Prop:=e= .returned (.bool (decide (xs=ys)))∧ ∃k,w'=w.drewN k
theorem tS (A B:Option Addr) (c d:Nat) (xs q:List Int) (w:World) (O:xs.length≤9223372036854775807) (R:q.length≤9223372036854775807) (F:Bytes xs) (hy:Bytes q) (M:Lies w A xs) (L:Lies w B q):
  Calls prog 69 #[.slice A xs.length c,.slice B q.length d] w (DL xs q w):=by
 by_cases E:xs.length=q.length
 ·have HS:=dM (fun _:Unit=>wZ F hy E)
  obtain⟨n,D⟩:=yaa xs.length
  rw[←E,←D]
  rw[←D]at O HS
  have HN:=dM (show n=q.length by rw[D,E])
  have aa:=dM D
  have HX:=dM F
  have HY:=dM hy
  have HL:=dM M
  have ak:=dM L
  clear E R F hy M L D
  go_enter func69,ntmps69
  go_wp2_with fail
  go_loopw[5,14] (fun v i wr=> ∃k m:Nat,k≤n∧v= .int .u8 (CI xs q k)∧i= .int .i64 k∧wr=w.drewN m) (fun _ i _=>n-(intOf i).toNat)
  case atStart=>exact⟨0,0,by omega,rfl,rfl,rfl⟩
  case round=>
   obtain⟨k,m,hk,rfl,rfl,rfl⟩:=hrel
   by_cases U:k<n
   ·obtain⟨b1,o1,rfl,_,_,W⟩:=HL.out (by rw[←aa.out];omega)
    obtain⟨b2,o2,rfl,_,_,V⟩:=ak.out (by rw[←HN.out];omega)
    have g1:(w.drewN m).cell? ⟨b1,o1+k,none⟩=_:=W k _ (pf .u8 xs k (by rw[←aa.out];exact U))
    have X:(w.drewN m).cell? ⟨b2,o2+k,none⟩=_:=V k _ (pf .u8 q k (by rw[←HN.out];exact U))
    obtain⟨ah,ag⟩:=HX.out k
    obtain⟨af,ae⟩:=HY.out k
    obtain⟨ad,ab⟩:=CH xs q k
    have G:Hid (∀_:Unit,CI xs q (k+1)=bits .or .u8 (CI xs q k) (bits .xor .u8 (xs.getD k 0) (q.getD k 0))):=dM (fun _=>rfl)
    obtain⟨x,ex⟩:=yaa (xs.getD k 0)
    obtain⟨y,Z⟩: ∃x,x=q.getD k 0:=⟨_,rfl⟩
    obtain⟨z,Y⟩: ∃x,x=CI xs q k:=⟨_,rfl⟩
    rw[←ex]at g1 ah ag G
    rw[←Z]at X af ae G
    rw[←Y]at ad ab G⊢
    clear ex Z Y W V
    obtain⟨wr,I⟩: ∃x,x=w.drewN m:=⟨_,rfl⟩
    rw[←I]at g1 X⊢
    have ai:=dM I
    clear I
    go_wp2_with fail
    go_quiet (fail)
    go_wp2_with fail
    go_roundw
    case rel=>exact⟨k+1,m+nq,by omega,by rw[G.out ()],by go_num,by rw[ai.out,j7]⟩
    case measure=>simp[intOf];omega
   ·have HK:=dM (show k=n by omega)
    go_wp2_with fail
    go_ret
    exact⟨by rw[←HS.out (),←HK.out];rfl,m,rfl⟩
 ·have N:decide (xs=q)=false:=dT (fun h=>E (by rw[h]))
  obtain⟨n,D⟩:=yaa xs.length
  obtain⟨m,Q⟩: ∃n,n=q.length:=⟨_,rfl⟩
  rw[←D,←Q]at E⊢
  have hd:(((n:Nat):Int)!=(m:Int))=true:=by simp;omega
  have aj:=dM (fun _:Unit=>N)
  clear N O R F hy M L D Q
  go_enter func69,ntmps69
  go_wp2_with fail
  go_ret
  exact⟨by rw[aj.out ()];rfl,0,rfl⟩
theorem C_:(prog.info? 5).map (fun i=>(i.zero,i.size,i.bytes))=some (some (.int .u8 0),1,1):=by kernel_rfl
theorem yR (O E F:ByteArray) (w:World) (hs:E.size≤1000000) (q:F.size≤1000000) (Q:Tabs w):
  Calls prog 53 #[.agg #[.string O,.string E],.string F] w fun e w'=>e= .returned (.agg (c_ .u8 (nA (a_ E) (a_ F))).toArray)∧Below w.heap.size w w':=by
 have M:=dM (fun(W:World) (A B:Option Addr) (c d:Nat) (hc:E.size≤c) (hd:F.size≤d) (hW:Below w.heap.size w W) (h1:Lies W A (a_ E)) (h2:Lies W B (a_ F))=>by
  have:=ER A B c d (a_ E) (a_ F) W (by rw[j_];omega) (by rw[j_];omega) (by rw[j_];omega) (by rw[j_];omega) (pM _) (pM _) h1 h2 (Q.below hW)
  rw[j_,j_]at this
  exact this)
 have I:Hid ((nA (a_ E) (a_ F)).length=32):=dM (ww _)
 obtain⟨D,Z⟩:=yaa (nA (a_ E) (a_ F))
 rw[←Z]at M I⊢
 have ag:=dM (nO w (.cells #[.string O,.string E] 41))
 clear Q Z hs q
 go_enter func53,ntmps53
 go_wp2_with(first
  |(refine nG rfl (some 4) rfl _ rfl _ z24 ?_;intro g4 w2 ah L G;have af:=dM (ag.out.grown G ag.out.size (by simp));have aq:=G.cell (a:=⟨w.heap.size,1,none⟩) (v:= .string E) (by simp) (by simp);clear G;try go_frame)
  |(refine Hr rfl (some 7) rfl _ _ 5 (.tmp 6) rfl E rfl ew ee fc ?_;intro A1 c1 w3 U aj q;have ae:=yab af q;have ao:=dM U;have ab:=dM (L.below q L.lt);clear q U L;try go_frame)
  |(refine Hr rfl (some 9) rfl _ _ 5 (.tmp 8) rfl F rfl ew ee fc ?_;intro A2 c2 w4 R ai q;have N:=yab ae q;have ak:=dM R;have am:=dM (ao.out.below q);have aa:=dM (ab.out.below q ab.out.lt);clear q R;try go_frame)
  |(go_at_call 86;(with_reducible refine(M.out _ _ _ _ _ aj ai N.out am.out ak.out).mono ?_);rintro e w5 ⟨rfl,q⟩;have ad:=yab N q;have Y:=aa.out.below q aa.out.lt;clear q M)
  |(refine nn rfl none rfl _ (.tmp 4) (.tmp 10) rfl g4 0 (c_ .u8 D) rfl rfl _ _ Y (by simp[I.out]) (by rw[rP,b_,I.out]) (oW _ _) ?_;intro w6 X G;rw[nr _ _ (by simp[I.out])]at X;have ap:=dM (ad.out.grown G ad.out.size (by intro k V;injection V with V;have:=ah;simp at this;omega));clear G Y;try go_frame))
 exact dW (v:= .agg (c_ .u8 D).toArray) (wv results53 _ _ g4 _ _ _ rfl X gG rfl (by rw[rP,b_,I.out])) rfl ⟨rfl,ap.out⟩
theorem JN (n:Nat) (x:Int):(BitVec.ofInt n x).toNat=(x%(2^n:Nat)).toNat:=by rw[iU]
theorem Gl (x y:Nat) (B:x<4294967296) (hy:y<4294967296):bits .or .u32 (x:Int) (y:Int)=((x|||y:Nat):Int):=by
 have h:(BitVec.ofInt 32 (x:Int)|||BitVec.ofInt 32 (y:Int)).toNat=x|||y:=by
  rw[mM,JN,JN]
  congr 1<;>omega
 have q:=(BitVec.ofInt 32 (x:Int)|||BitVec.ofInt 32 (y:Int)).isLt
 show IntKind.u32.wrap ((BitVec.ofInt 32 (x:Int)|||BitVec.ofInt 32 (y:Int)).toNat:Int)=_
 rw[ko,h]
 rw[h]at q
 omega
theorem si (lo hi:Int) (k:Nat) (h0:0≤lo) (h1:lo<2^k) (D:0≤hi) (q:hi*2^k+lo<4294967296):bits .or .u32 lo (hi*2^k)=hi*2^k+lo:=by
 obtain⟨a,rfl⟩:=gv h0
 obtain⟨b,rfl⟩:=gv D
 have B:a<2^k:=by
  have e:((2:Int)^k)=((2^k:Nat):Int):=by simp
  rw[e]at h1
  exact mI.1 h1
 have e:((b:Int)*2^k)=((b*2^k:Nat):Int):=by simp
 have E:b*2^k+a<4294967296:=by
  rw[e,←lB]at q
  exact mI.1 q
 rw[e,Gl a (b*2^k) (by omega) (by omega),Nat.or_comm,←jH,←jM B b,jH]
 simp
theorem CF (lo hi:Int) (k:Nat) (h0:0≤lo) (h1:lo<2^k) (B:0≤hi) (q:hi*2^k+lo<4294967296):bits .or .u32 (hi*2^k) lo=hi*2^k+lo:=by
 rw[←si lo hi k h0 h1 B q]
 unfold bits
 simp only[BitVec.or_comm]
theorem IL (lo hi:Int) (h:0≤lo∧lo<256) (q:0≤hi∧hi<16777216):bits .or .u32 lo (hi*256)=hi*256+lo:=si lo hi 8 h.1 h.2 q.1 (by omega)
theorem CG (lo hi:Int) (h:0≤lo∧lo<65536) (q:0≤hi∧hi<65536):bits .or .u32 lo (hi*65536)=hi*65536+lo:=si lo hi 16 h.1 h.2 q.1 (by omega)
theorem IM (lo hi:Int) (h:0≤lo∧lo<64) (q:0≤hi∧hi<67108864):bits .or .u32 (hi*64) lo=hi*64+lo:=CF lo hi 6 h.1 h.2 q.1 (by omega)
theorem sM (x:Int) (h0:0≤x) (h1:x<4294967296):bits .and .u32 x 63=x%64:=by
 obtain⟨a,rfl⟩:=gv h0
 have h:(BitVec.ofInt 32 (a:Int)&&& BitVec.ofInt 32 63).toNat=a%64:=by
  rw[BitVec.toNat_and,JN,JN]
  have B:((a:Int)%(2^32:Nat)).toNat=a:=by omega
  have q:((63:Int)%(2^32:Nat)).toNat=2^6-1:=by decide
  rw[B,q,k9]
 show IntKind.u32.wrap ((BitVec.ofInt 32 (a:Int)&&& BitVec.ofInt 32 63).toNat:Int)=_
 rw[ko,h]
 omega
theorem K7 (c:Int) (w:World) (h0:0≤c) (h1:c≤255):
  Calls prog 124 #[.int .u8 c] w fun e w'=>e= .returned (.int .i64 (wo c))∧w=w':=by
 by_cases a1:65≤c
 ·by_cases a2:c≤90
  ·go_enter jy,jj
   go_wp2
   go_ret
   exact⟨tg (by unfold wo;rw[dP ⟨a1,a2⟩]),rfl⟩
  ·by_cases L:97≤c
   ·by_cases I:c≤122
    ·go_enter jy,jj
     go_wp2
     go_ret
     exact⟨tg (by unfold wo;rw[dN (by omega),dP ⟨L,I⟩];omega),rfl⟩
    ·have q:(c==45)=false:=by simp;omega
     have D:(c==95)=false:=by simp;omega
     have E: ¬c≤57:=by omega
     go_enter jy,jj
     go_wp2
     go_ret
     exact⟨tg (by unfold wo;rw[dN (by omega),dN (by omega),dN (by omega),dN (by omega),dN (by omega)]),rfl⟩
   ·have q:(c==45)=false:=by simp;omega
    have E: ¬c≤57:=by omega
    by_cases c1:c=95
    ·subst c1
     go_enter jy,jj
     go_wp2
     go_ret
     exact⟨rfl,rfl⟩
    ·have D:(c==95)=false:=by simp;omega
     have B:=dM c1
     clear c1
     go_enter jy,jj
     go_wp2
     go_ret
     exact⟨tg (by unfold wo;rw[dN (by omega),dN (by omega),dN (by omega),dN (by omega),dN B.out]),rfl⟩
 ·have D:(c==95)=false:=by simp;omega
  have M: ¬97≤c:=by omega
  by_cases G:48≤c
  ·by_cases F:c≤57
   ·go_enter jy,jj
    go_wp2
    go_ret
    exact⟨tg (by unfold wo;rw[dN (by omega),dN (by omega),dP ⟨G,F⟩];omega),rfl⟩
   ·have q:(c==45)=false:=by simp;omega
    go_enter jy,jj
    go_wp2
    go_ret
    exact⟨tg (by unfold wo;rw[dN (by omega),dN (by omega),dN (by omega),dN (by omega),dN (by omega)]),rfl⟩
  ·by_cases c1:c=45
   ·subst c1
    go_enter jy,jj
    go_wp2
    go_ret
    exact⟨rfl,rfl⟩
   ·have q:(c==45)=false:=by simp;omega
    have B:=dM c1
    clear c1
    go_enter jy,jj
    go_wp2
    go_ret
    exact⟨tg (by unfold wo;rw[dN (by omega),dN (by omega),dN (by omega),dN B.out,dN (by omega)]),rfl⟩
def sY:List Int→Int
 |[]=>0
 |[a]=>a*65536
 |[a,b]=>a*65536+b*256
 |a::b::c::_=>a*65536+b*256+c
theorem Lies.at {w:World} {A:Option Addr} {xs:List Int} (h:Lies w A xs) (q:0<xs.length): ∃b o,A=some ⟨b,o,none⟩∧w.cell? ⟨b,o,none⟩=some (.int .u8 (xs.getD 0 0))∧ ∀j,j<xs.length→w.cell? ⟨b,o+j,none⟩=some (.int .u8 (xs.getD j 0)):=by
 obtain⟨b,o,e,_,_,D⟩:=h q
 have g: ∀j,j<xs.length→w.cell? ⟨b,o+j,none⟩=some (.int .u8 (xs.getD j 0)):=fun j B=>D j _ (pf .u8 xs j B)
 exact⟨b,o,e,g 0 q,g⟩
theorem uO {xs:List Int} (q:Bytes xs):0≤sY xs∧sY xs<16777216:=by
 match xs with
 |[]=>decide
 |[a]=>have:=q.mem (x:=a) (by simp);simp only[sY];omega
 |[a,b]=>have:=q.mem (x:=a) (by simp);have:=q.mem (x:=b) (by simp);simp only[sY];omega
 |a::b::c::_=>have:=q.mem (x:=a) (by simp);have:=q.mem (x:=b) (by simp);have:=q.mem (x:=c) (by simp);simp only[sY];omega
theorem Nc (A:Option Addr) (xs:List Int) (n c:Nat) (w:World) (q:xs.length=n) (N:n≤3) (B:Bytes xs) (E:Lies w A xs):
  Calls prog 80 #[.slice A n c] w fun e w'=>e= .returned (.int .u32 (sY xs))∧w=w':=by
 match xs,q with
 |[],q=>
  subst q
  go_enter mQ,mz
  go_wp2
  go_ret
  exact⟨rfl,rfl⟩
 |[x],q=>
  subst q
  obtain⟨b,o,rfl,h0,D⟩:=E.at (by simp)
  replace h0:w.cell? ⟨b,o,none⟩=some (.int .u8 x):=h0
  obtain⟨G,F⟩:=B.mem (x:=x) (by simp)
  clear D E B
  go_enter mQ,mz
  go_wp2
  go_ret
  exact⟨tg (by rw[CG 0 x (by omega) (by omega)];simp[sY]),rfl⟩
 |[x,y],q=>
  subst q
  obtain⟨b,o,rfl,h0,D⟩:=E.at (by simp)
  replace h0:w.cell? ⟨b,o,none⟩=some (.int .u8 x):=h0
  have h1:w.cell? ⟨b,o+1,none⟩=some (.int .u8 y):=D 1 (by simp)
  obtain⟨G,F⟩:=B.mem (x:=x) (by simp)
  obtain⟨L,I⟩:=B.mem (x:=y) (by simp)
  clear D E B
  go_enter mQ,mz
  go_wp2
  go_ret
  exact⟨tg (by rw[IL 0 y (by omega) (by omega),CG _ x (by omega) (by omega)];simp[sY]),rfl⟩
 |[x,y,z],q=>
  subst q
  obtain⟨b,o,rfl,h0,D⟩:=E.at (by simp)
  replace h0:w.cell? ⟨b,o,none⟩=some (.int .u8 x):=h0
  have h1:w.cell? ⟨b,o+1,none⟩=some (.int .u8 y):=D 1 (by simp)
  have O:w.cell? ⟨b,o+2,none⟩=some (.int .u8 z):=D 2 (by simp)
  obtain⟨G,F⟩:=B.mem (x:=x) (by simp)
  obtain⟨L,I⟩:=B.mem (x:=y) (by simp)
  obtain⟨z0,M⟩:=B.mem (x:=z) (by simp)
  clear D E B
  go_enter mQ,mz
  go_wp2
  go_ret
  exact⟨tg (by rw[IL z y (by omega) (by omega),CG _ x (by omega) (by omega)];simp[sY];omega),rfl⟩
 |_::_::_::_::_,q=>simp at q;omega
theorem rO (n:Nat) (w:World) (q:n≤3):
  Calls prog 82 #[.int .i64 (n:Int)] w fun e w'=>e= .returned (.int .i64 (((8*n+5)/6:Nat):Int))∧w=w':=by
 go_enter func82,ntmps82
 go_wp2
 go_ret
 exact⟨tg (by omega),rfl⟩
theorem q8 (w:World):Calls prog 126 #[.int .i64 2] w fun e w'=>e= .returned (.int .i64 15)∧w=w':=by
 go_enter func126,ntmps126
 go_wp2
 go_ret
 exact⟨rfl,rfl⟩
theorem MK (w:World):Calls prog 126 #[.int .i64 3] w fun e w'=>e= .returned (.int .i64 3)∧w=w':=by
 go_enter func126,ntmps126
 go_wp2
 go_ret
 exact⟨rfl,rfl⟩
def Hx (pos:Int) (n:Int):Array Value:= #[.int .i64 pos,.iface 54 (.int .i64 n)]
theorem sL (pos:Int) (w:World):
  Calls prog 125 #[.int .i64 pos] w fun e w'=>e= .returned (.iface 188 (.pointer (some ⟨w.heap.size,0,none⟩)))∧w'=w.alloc (.cells (Hx pos 20) 190):=by
 go_enter func125,ntmps125
 go_wp2
 go_ret
 exact⟨rfl,rfl⟩
def signsA:Array UInt8:= #[65,66,67,68,69,70,71,72,73,74,75,76,77,78,79,80,81,82,83,84,85,86,87,88,89,90,97,98,99,100,101,102,103,104,105,106,107,108,109,110,111,112,113,114,115,116,117,118,119,120,121,122,48,49,50,51,52,53,54,55,56,57,45,95]
theorem Eu: ∀n:Fin 64,signsA[n.val]?.map (fun b=>(b.toNat:Int))=some (sg (n.val:Int)):=by decide+kernel
theorem wV:signsA.size=64:=rfl
theorem uQ (k:IntKind) (n:Int) (h0:0≤n) (h1:n<64) (w:World):(Instr.index 9 (.string ⟨signsA⟩) (.int k n)).run prog w= .ok (.int .u8 (sg n)) w:=by
 obtain⟨m,rfl⟩:=gv h0
 have B:m<64:=by omega
 obtain⟨b,E,D⟩:=ik.1 (Eu ⟨m,B⟩)
 simp only at E D
 have q:m<signsA.size:=by rw[wV];exact B
 have F:(if(0:Int)≤(m:Int)then(⟨signsA⟩:ByteArray)[(m:Int).toNat]? else none)=some b:=by
  rw[dP (by omega),kP,getElem?_pos (⟨signsA⟩:ByteArray) m q,←E,Array.getElem?_eq_getElem q]
  rfl
 simp only[Instr.index,asIntOf,fF,mF,jb,i8 ew]
 rw[F]
 simp only[mF,D]
theorem Ip (k:IntKind) (n:Int) (h0:0≤n) (h1:n<64) (w:World):(Instr.index 9 (.string {data:= #[65,66,67,68,69,70,71,72,73,74,75,76,77,78,79,80,81,82,83,84,85,86,87,88,89,90,97,98,99,100,101,102,103,104,105,106,107,108,109,110,111,112,113,114,115,116,117,118,119,120,121,122,48,49,50,51,52,53,54,55,56,57,45,95]}) (.int k n)).run prog w= .ok (.int .u8 (sg n)) w:=uQ k n h0 h1 w
def BM (x:Int):List Int:=[sg (x/262144%64),sg (x/4096%64),sg (x/64%64),sg (x%64)]
theorem M1 (x:Int) (w:World) (h0:0≤x) (h1:x<16777216):
  Calls prog 79 #[.int .u32 x] w fun e w'=>e= .returned (.agg (c_ .u8 (BM x)).toArray)∧Below w.heap.size w w':=by
 have O:=sM (x/262144) (by omega) (by omega)
 have N:=sM (x/4096) (by omega) (by omega)
 have M:=sM (x/64) (by omega) (by omega)
 have L:=sM x (by omega) (by omega)
 have I:=Ip .u32 (x/262144%64) (by omega) (by omega)
 have G:=Ip .u32 (x/4096%64) (by omega) (by omega)
 have i3:=Ip .u32 (x/64%64) (by omega) (by omega)
 have i4:=Ip .u32 (x%64) (by omega) (by omega)
 have F:Hid (BM x=[sg (x/262144%64),sg (x/4096%64),sg (x/64%64),sg (x%64)]):=dM rfl
 generalize x/262144%64=E at*
 generalize x/4096%64=D at*
 generalize x/64%64=B at*
 generalize x%64=q at*
 go_enter func79,ntmps79
 go_wp2
 go_region
 go_wp2
 refine dW (v:= .agg #[.int .u8 (sg E),.int .u8 (sg D),.int .u8 (sg B),.int .u8 (sg q)]) (by simp[results,results79,go_sem]) rfl ⟨?_,?_⟩
 ·rw[F.out];rfl
 ·exact((dU _ _).alloc (dQ _) _).drew
def pe (l:List Int):Nat→Int
 |0=>0
 |k+1=>pe l k*64+(if k<l.length then wo (l.getD k 0)else 0)
def Good (l:List Int):Prop:= ∀k,k<l.length→wo (l.getD k 0)≠64
theorem JL (l:List Int) (h:Good l): ∀k,k≤4→0≤pe l k∧pe l k<64^k
 |0,_=>⟨kM _,by show(0:Int)<64^0;decide⟩
 |k+1,q=>by
  obtain⟨h0,h1⟩:=JL l h k (by omega)
  have B:0≤(if k<l.length then wo (l.getD k 0)else 0)∧(if k<l.length then wo (l.getD k 0)else 0)<64:=by
   split
   ·rename_i q
    have:=h k q
    have:=pK (l.getD k 0)
    omega
   ·decide
  have:(64:Int)^(k+1)=64^k*64:=by rw[jP]
  rw[pe,this]
  omega
theorem Nd (s:ByteArray) (w:World) (_hs:s.size≤4) (M:Good (a_ s)):
  Calls prog 93 #[.string s] w fun e w'=>e= .returned (.int .u32 (pe (a_ s) 4))∧w=w':=by
 have N:=dM M
 clear M
 go_enter func93,ntmps93
 go_wp2
 go_loop [3,5] (fun v i=> ∃k:Nat,k≤4∧i= .int .i64 k∧v= .int .u32 (pe (a_ s) k)) (fun _ i=>4-(intOf i).toNat)
 case atStart=>exact⟨0,by omega,rfl,rfl⟩
 case round=>
  obtain⟨k,U,rfl,rfl⟩:=hrel
  by_cases Z:k<4
  ·have Y:=JL (a_ s) N.out k U
   have Q:0≤pe (a_ s) k∧pe (a_ s) k≤262143:=by
    have:k=0∨k=1∨k=2∨k=3:=by omega
    rcases this with rfl|rfl|rfl|rfl<;>constructor<;>omega
   obtain⟨G,F⟩:=Q
   clear Y
   by_cases D:k<s.size
   ·have L:=N.out k (by rw[j_];exact D)
    have I:=pK ((a_ s).getD k 0)
    rw[o_ s k D]at L I
    have q:Hid (pe (a_ s) (k+1)=pe (a_ s) k*64+wo (s[k].toNat:Int)):=dM (by rw[pe,dP (by rw[j_];exact D),o_ s k D])
    have V:(s[k].toNat:Int)≤255:=by have:=s[k].toNat_lt;omega
    have E:Hid (bits .or .u32 (pe (a_ s) k*64) (wo (s[k].toNat:Int))=pe (a_ s) k*64+wo (s[k].toNat:Int)):=dM (IM _ _ (by omega) (by omega))
    obtain⟨w0,O⟩:=I
    obtain⟨y,hy⟩:=yaa (wo (s[k].toNat:Int))
    have W:=K7 (s[k].toNat:Int) w (by omega) V
    rw[←hy]at w0 O q E W
    obtain⟨x,B⟩:=yaa (pe (a_ s) k)
    rw[←B]at G F q E⊢
    have X:=dM W
    clear L hy B W
    go_wp2_with(go_at_call 124;refine X.out.mono ?_;rintro e w' ⟨rfl,rfl⟩)
    go_round
    case rel=>exact⟨k+1,by omega,by go_num,by rw[q.out,E.out]⟩
    case measure=>simp[intOf];omega
   ·have q:Hid (pe (a_ s) (k+1)=pe (a_ s) k*64+0):=dM (by rw[pe,dN (by rw[j_];exact D)])
    obtain⟨x,B⟩:=yaa (pe (a_ s) k)
    rw[←B]at G F q⊢
    clear B
    go_wp2
    go_round
    case rel=>exact⟨k+1,by omega,by go_num,by rw[q.out,Int.add_zero]⟩
    case measure=>simp[intOf];omega
  ·have R:k=4:=by omega
   subst R
   go_wp2
   go_ret
   exact⟨rfl,rfl⟩
def FaultRes (s:ByteArray) (w:World) (e:Ending) (w':World):Prop:=
 (nM (a_ s)= -1∧e= .returned .nilIface∧w'=w)∨
 (0≤nM (a_ s)∧e= .returned (.iface 188 (.pointer (some ⟨w.heap.size,0,none⟩)))∧w'=w.alloc (.cells (Hx (nM (a_ s)) 20) 190))
theorem FaultRes.at {s:ByteArray} {w:World} {p:Int} (h:nM (a_ s)=p) (h0:0≤p):FaultRes s w (.returned (.iface 188 (.pointer (some ⟨w.heap.size,0,none⟩)))) (w.alloc (.cells (Hx p 20) 190)):=
 .inr ⟨by omega,rfl,by rw[h]⟩
theorem rm (s:ByteArray) (w:World) (h:s.size≤65536):
  Calls prog 92 #[.string s] w (FaultRes s w):=by
 have HL:=Hz (a_ s)
 rw[j_]at HL
 have HG:=dM (JI (a_ s))
 have ab:=dM (Kn (a_ s))
 obtain⟨q,U⟩:=yaa (o7 (a_ s))
 have F:Hid (nM (a_ s)=if q<s.size then(q:Int)else if s.size%4=0 then-1 else if s.size%4=1 then(s.size:Int)else if yJ (a_ s)=0 then-1 else(s.size:Int)-1):=dM (by
  unfold nM;rw[←U,j_])
 rw[←U]at HL HG ab
 clear U
 go_enter func92,ntmps92
 go_wp2
 go_loop [12] (fun i=> ∃k:Nat,k≤q∧i= .int .i64 k) (fun i=>q-(intOf i).toNat)
 case atStart=>exact⟨0,by omega,rfl⟩
 case round=>
  obtain⟨k,hk,rfl⟩:=hrel
  by_cases Y:k<s.size
  ·have V:(s[k].toNat:Int)≤255:=by have:=s[k].toNat_lt;omega
   have R:=pK (s[k].toNat:Int)
   have D:=dM (K7 (s[k].toNat:Int) w (by omega) V)
   by_cases af:k<q
   ·have ag:((wo (s[k].toNat:Int))==64)=false:=by
     have:=HG.out k af
     rw[o_ s k Y]at this
     simpa using this
    go_wp2_with(go_at_call 124;refine D.out.mono ?_;rintro e w' ⟨rfl,rfl⟩)
    go_round
    case rel=>exact⟨k+1,by omega,by go_num⟩
    case measure=>simp[intOf];omega
   ·have aa:k=q:=by omega
    have he:((wo (s[k].toNat:Int))==64)=true:=by
     have:=ab.out (by rw[j_];omega)
     rw[←aa,o_ s k Y]at this
     simpa using this
    have B:Hid (nM (a_ s)=(k:Int)):=dM (by rw[F.out,dP (by omega)];omega)
    clear aa
    go_wp2_with(first
     |(go_at_call 124;refine D.out.mono ?_;rintro e w' ⟨rfl,rfl⟩)
     |(go_at_call 125;refine(sL _ _).mono ?_;rintro e w' ⟨rfl,rfl⟩))
    go_ret
    exact FaultRes.at B.out (by omega)
  ·have M: ¬q<s.size:=by omega
   by_cases L:s.size%4=0
   ·have B:Hid (nM (a_ s)= -1):=dM (by rw[F.out,dN M,dP L])
    have W:(((s.size:Int)%4)==0)=true:=by simp;omega
    clear L
    go_wp2
    go_ret
    exact .inl ⟨B.out,rfl,rfl⟩
   ·have W:(((s.size:Int)%4)==0)=false:=by simp;omega
    by_cases Q:s.size%4=1
    ·have B:Hid (nM (a_ s)=(s.size:Int)):=dM (by rw[F.out,dN M,dN L,dP Q])
     have b1:(((s.size:Int)%4)==1)=true:=by simp;omega
     clear L Q
     go_wp2_with(go_at_call 125;refine(sL _ _).mono ?_;rintro e w' ⟨rfl,rfl⟩)
     go_ret
     exact FaultRes.at B.out (by omega)
    ·have I:s.size%4=2∨s.size%4=3:=by omega
     have Z:s.size-1<s.size:=by omega
     have V:(s[s.size-1].toNat:Int)≤255:=by have:=s[s.size-1].toNat_lt;omega
     have D:=dM (K7 (s[s.size-1].toNat:Int) w (by omega) V)
     have R:=pK (s[s.size-1].toNat:Int)
     obtain⟨y,hy⟩:=yaa (wo (s[s.size-1].toNat:Int))
     rw[←hy]at R
     obtain⟨X,y1⟩:=R
     rcases I with I|I
     ·have e2:(s.size:Int)%4=2:=by omega
      have E:Hid (yJ (a_ s)=y%16):=dM (by rw[yJ,j_,o_ s (s.size-1) Z,dP I,hy])
      have G:Hid (bits .and .i64 y 15=y%16):=dM (Kb y 4 (by decide) X (by omega))
      obtain⟨r,N⟩:=yaa (y%16)
      have ae:0≤r:=by omega
      rw[←N]at E G
      have O:Hid (Calls prog 124 #[.int .u8 (s[s.size-1].toNat:Int)] w fun e w'=>e= .returned (.int .i64 y)∧w=w'):=dM (by rw[hy];exact D.out)
      have ha:=G.out
      clear hy N L Q W D G I
      by_cases hz:r=0
      ·have B:Hid (nM (a_ s)= -1):=dM (by rw[F.out,dN M,dN (by omega),dN (by omega),dP (by rw[E.out];exact hz)])
       subst hz
       go_wp2_with(first
        |(go_at_call 124;refine O.out.mono ?_;rintro e w' ⟨rfl,rfl⟩)
        |(go_at_call 126;refine(q8 _).mono ?_;rintro e w' ⟨rfl,rfl⟩))
       go_ret
       exact .inl ⟨B.out,rfl,rfl⟩
      ·have B:Hid (nM (a_ s)=(s.size:Int)-1):=dM (by rw[F.out,dN M,dN (by omega),dN (by omega),dN (by rw[E.out];exact hz)])
       have ad:(r !=0)=true:=by simpa using hz
       clear hz
       go_wp2_with(first
        |(go_at_call 124;refine O.out.mono ?_;rintro e w' ⟨rfl,rfl⟩)
        |(go_at_call 126;refine(q8 _).mono ?_;rintro e w' ⟨rfl,rfl⟩)
        |(go_at_call 125;refine(sL _ _).mono ?_;rintro e w' ⟨rfl,rfl⟩))
       go_ret
       exact FaultRes.at B.out (by omega)
     ·have e2:(s.size:Int)%4=3:=by omega
      have E:Hid (yJ (a_ s)=y%4):=dM (by rw[yJ,j_,o_ s (s.size-1) Z,dN (by omega),hy])
      have G:Hid (bits .and .i64 y 3=y%4):=dM (Kb y 2 (by decide) X (by omega))
      obtain⟨r,N⟩:=yaa (y%4)
      have ae:0≤r:=by omega
      rw[←N]at E G
      have O:Hid (Calls prog 124 #[.int .u8 (s[s.size-1].toNat:Int)] w fun e w'=>e= .returned (.int .i64 y)∧w=w'):=dM (by rw[hy];exact D.out)
      have ha:=G.out
      clear hy N L Q W D G I
      by_cases hz:r=0
      ·have B:Hid (nM (a_ s)= -1):=dM (by rw[F.out,dN M,dN (by omega),dN (by omega),dP (by rw[E.out];exact hz)])
       subst hz
       go_wp2_with(first
        |(go_at_call 124;refine O.out.mono ?_;rintro e w' ⟨rfl,rfl⟩)
        |(go_at_call 126;refine(MK _).mono ?_;rintro e w' ⟨rfl,rfl⟩))
       go_ret
       exact .inl ⟨B.out,rfl,rfl⟩
      ·have B:Hid (nM (a_ s)=(s.size:Int)-1):=dM (by rw[F.out,dN M,dN (by omega),dN (by omega),dN (by rw[E.out];exact hz)])
       have ad:(r !=0)=true:=by simpa using hz
       clear hz
       go_wp2_with(first
        |(go_at_call 124;refine O.out.mono ?_;rintro e w' ⟨rfl,rfl⟩)
        |(go_at_call 126;refine(MK _).mono ?_;rintro e w' ⟨rfl,rfl⟩)
        |(go_at_call 125;refine(sL _ _).mono ?_;rintro e w' ⟨rfl,rfl⟩))
       go_ret
       exact FaultRes.at B.out (by omega)
theorem vu (s:ByteArray) (w:World) (h:s.size≤65536) (E:nM (a_ s)= -1):
  Calls prog 92 #[.string s] w fun e w'=>e= .returned .nilIface∧w=w':=
 (rm s w h).mono fun e w' B=>by
  rcases B with⟨_,D,q⟩|⟨h0,_,_⟩
  ·exact⟨D,q.symm⟩
  ·omega
theorem vt (s:ByteArray) (w:World) (h:s.size≤65536) (D: ¬nM (a_ s)= -1):
  Calls prog 92 #[.string s] w fun e w'=>e= .returned (.iface 188 (.pointer (some ⟨w.heap.size,0,none⟩)))∧w'=w.alloc (.cells (Hx (nM (a_ s)) 20) 190):=
 (rm s w h).mono fun e w' B=>by
  rcases B with⟨h0,_,_⟩|⟨_,E,q⟩
  ·exact absurd h0 D
  ·exact⟨E,q⟩
theorem su:(prog.info? 5).map (fun i=>(i.zero,i.size,i.bytes))=some (some (.int .u8 0),1,1):=by kernel_rfl
theorem Good.of_fault {l:List Int} (h:nM l= -1):Good l:=fun k B=>by
 have q:=Hz l
 unfold nM at h
 refine JI l k ?_
 split at h<;>omega
theorem Good.part {l:List Int} (h:Good l) (a b:Nat):Good ((l.take b).drop a):=fun k q=>by
 simp only[eq,ep]at q
 have:=h (a+k) (by omega)
 rw[dR,jo,gI,dP (by omega),←dR]
 exact this
theorem E5 {l:List Int} (h:l.length=4): ∃a b c d,l=[a,b,c,d]:=by
 match l,h with
 |[a,b,c,d],_=>exact⟨a,b,c,d,rfl⟩
theorem uN (a b c d:Int):pe [a,b,c,d] 4=((wo a*64+wo b)*64+wo c)*64+wo d:=by
 simp[pe]
theorem Be (l:List Int) (B:l.length=4) (q:Good l):
  g_ l=[pe l 4/65536,pe l 4/256%256,pe l 4%256]:=by
 obtain⟨a,b,c,d,rfl⟩:=E5 B
 have G:=q 0 (by simp)
 have F:=q 1 (by simp)
 have E:=q 2 (by simp)
 have D:=q 3 (by simp)
 simp only[eA,fy]at G F E D
 have N:=pK a
 have M:=pK b
 have L:=pK c
 have I:=pK d
 rw[uN]
 simp only[g_]
 congr 1
 ·omega
 ·congr 1
  ·omega
  ·congr 1;omega
theorem Bd (l:List Int) (B:l.length=3) (q:Good l):g_ l=[pe l 4/65536,pe l 4/256%256]:=by
 match l,B with
 |[a,b,c],_=>
  have F:=q 0 (by simp)
  have E:=q 1 (by simp)
  have D:=q 2 (by simp)
  simp only[eA,fy]at F E D
  have L:=pK a
  have I:=pK b
  have G:=pK c
  simp[g_,pe]
  omega
theorem Fa (l:List Int) (B:l.length=2) (q:Good l):g_ l=[pe l 4/65536]:=by
 match l,B with
 |[a,b],_=>
  have E:=q 0 (by simp)
  have D:=q 1 (by simp)
  simp only[eA,fy]at E D
  have G:=pK a
  have F:=pK b
  simp[g_,pe]
  omega
theorem Lies.alloc_row (w:World) (t:TypeId) (cs:List Int) (xs:List Int) (h: ∀(j:Nat) (v:Value),(c_ .u8 xs)[j]? =some v→(c_ .u8 cs)[j]? =some v):Lies (w.alloc (.cells (c_ .u8 cs).toArray t)) (some ⟨w.heap.size,0,none⟩) xs:=
 Lies.blk (t:=t) (cs:=c_ .u8 cs) (eC w _) (fun j v q=>by rw[eL];exact h j v q)
theorem NG (s:ByteArray) (w:World) (D:s.size=0∨s.size=2∨s.size=3) (G:Good (a_ s)):
  Calls prog 94 #[.string s] w fun e w'=>e= .returned (.slice (some ⟨w.heap.size,0,none⟩) (g_ (a_ s)).length 3)∧Lies w' (some ⟨w.heap.size,0,none⟩) (g_ (a_ s))∧Below w.heap.size w w':=by
 have I:=fun(W:World)=>Nd s W (by omega) G
 have L:=JL (a_ s) G 4 (by omega)
 have F:=j_ s
 rcases D with D|D|D
 ·have E:g_ (a_ s)=[]:=by
   rw[D]at F
   rw[ea F];rfl
  rw[E]
  have O:=dM D
  obtain⟨x,B⟩:=yaa (pe (a_ s) 4)
  rw[←B]at I
  clear B L F E G
  go_enter func94,ntmps94
  go_wp2_with(go_at_call 93;refine(I _).mono ?_;rintro e w' ⟨rfl,rfl⟩)
  go_ret
  exact⟨rfl,fun h=>absurd h (by simp),nO _ _⟩
 ·have E:=Fa (a_ s) (by rw[F];exact D) G
  rw[E]
  obtain⟨x,B⟩:=yaa (pe (a_ s) 4)
  rw[←B]at I L⊢
  obtain⟨N,M⟩:=L
  replace M:x≤16777215:=by omega
  clear B F E G
  go_enter func94,ntmps94
  go_wp2_with(go_at_call 93;refine(I _).mono ?_;rintro e w' ⟨rfl,rfl⟩)
  go_ret
  exact⟨rfl,Lies.alloc_row w 185 [x/65536,0,0] _ (fun j v q=>by match j,q with|0,q=>exact q),nO _ _⟩
 ·have E:=Bd (a_ s) (by rw[F];exact D) G
  rw[E]
  obtain⟨x,B⟩:=yaa (pe (a_ s) 4)
  rw[←B]at I L⊢
  obtain⟨N,M⟩:=L
  replace M:x≤16777215:=by omega
  clear B F E G
  go_enter func94,ntmps94
  go_wp2_with(go_at_call 93;refine(I _).mono ?_;rintro e w' ⟨rfl,rfl⟩)
  go_ret
  exact⟨rfl,Lies.alloc_row w 185 [x/65536,x/256%256,0] _ (fun j v q=>by match j,q with|0,q=>exact q|1,q=>exact q),nO _ _⟩
theorem zo (l:List Int) (j:Nat) (D:j%4=0) (B:j≤l.length) (k:Nat) (q:j≤k):g_ (l.take k)=g_ (l.take j)++g_ ((l.take k).drop j):=by
 have e:l.take k=l.take j++(l.take k).drop j:=by
  have:=gu j (l.take k)
  rw[lZ,fK q]at this
  exact this.symm
 rw[←ME _ _ (by rw[ep,fK B];exact D),←e]
def DV (s:ByteArray) (w:World) (e:Ending) (w':World):Prop:=
 ∃A c,e= .returned (.tuple #[.slice A (g_ (a_ s)).length c,.nilIface])∧(g_ (a_ s)).length≤c∧Lies w' A (g_ (a_ s))∧Below w.heap.size w w'
theorem LA (s:ByteArray) (w:World) (h:s.size≤65536) (q: ¬nM (a_ s)= -1):
  Calls prog 63 #[.string s] w fun e w'=>e= .returned (.tuple #[.slice none 0 0,.iface 188 (.pointer (some ⟨w.heap.size,0,none⟩))])∧w'=w.alloc (.cells (Hx (nM (a_ s)) 20) 190):=by
 have B:Hid (¬nM (a_ s)= -1):=dM q
 clear q
 go_enter func63,ntmps63
 go_wp2_with(go_at_call 92;refine(vt s _ h B.out).mono ?_;rintro e w' ⟨rfl,rfl⟩)
 go_ret2
 exact⟨rfl,rfl⟩
theorem Lz (s:ByteArray) (w:World) (h:s.size≤65536) (hf:nM (a_ s)= -1):
  Calls prog 63 #[.string s] w (DV s w):=by
 have ay:=Good.of_fault hf
 have HF:Hid (nM (a_ s)= -1):=dM hf
 obtain⟨i0,ak,ag,af,ae⟩:=gw su
 obtain⟨wm,X,Y,M⟩:=run_make_own (P:=prog) w w.heap.size 46 5 i0 (.int .u8 0) 1 ee ak ag af .i64 .i64 (s.size*6/8) (by rw[ae];omega) (by unfold maxLen;omega) (dQ _)
 rw[show((s.size*6/8:Nat):Int)=(s.size:Int)*6/8 from by omega]at X
 have am:Below w.heap.size w wm:=⟨M.os,M.tape,M.output,M.size,fun k hk=>M.block k hk (by simp)⟩
 obtain⟨c0,aA⟩:=yaa (s.size*6/8)
 rw[←aA]at X Y
 obtain⟨B,hB⟩:=yaa w.heap.size
 rw[←hB]at X Y am
 have aD:=dM Y
 have aG:=dM am
 have HB:=dM hB
 have aF:=dM ay
 clear hf aA M Y am hB ay
 go_enter func63,ntmps63
 go_wp2_with(go_at_call 92;refine(vu s _ h HF.out).mono ?_;rintro e w' ⟨rfl,rfl⟩)
 go_loopw[6,7] (fun v i wr=> ∃j:Nat,j%4=0∧j≤s.size∧i= .int .i64 j∧wr.ownsRow B 5 1 v (g_ ((a_ s).take j)).length (c_ .u8 (g_ ((a_ s).take j)))∧Below B w wr) (fun _ i _=>s.size-(intOf i).toNat)
 case atStart=>exact⟨0,by omega,by omega,rfl,aD.out,aG.out⟩
 case round=>
  clear aD aG X
  obtain⟨j,ax,hj,rfl,au,aC⟩:=hrel
  have I:=dM au
  have ad:=dM aC
  clear au aC
  by_cases aQ:j+4≤s.size
  ·have aJ:(j:Int)<(s.size:Int)-(s.size:Int)%4:=by omega
   have HC:=dM (zo (a_ s) j ax (by rw[j_];exact hj) (j+4) (by omega))
   have ab:Hid (Good (((a_ s).take (j+4)).drop j)):=dM (aF.out.part j (j+4))
   have ah:(((a_ s).take (j+4)).drop j).length=4:=by rw[eq,ep,j_];omega
   have HG:=dM (Be _ ah ab.out)
   have ap:=JL _ ab.out 4 (by omega)
   have HJ:Hid (∀W:World,Calls prog 93 #[.string (s.extract j (j+4))] W fun e w'=>e= .returned (.int .u32 (pe (((a_ s).take (j+4)).drop j) 4))∧W=w'):=dM fun W=>by
    have:=Nd (s.extract j (j+4)) W (by rw[←j_,pF,ah];omega) (by rw[pF];exact ab.out)
    rw[pF]at this
    exact this
   obtain⟨x,hx⟩:=yaa (pe (((a_ s).take (j+4)).drop j) 4)
   rw[←hx]at HG HJ ap
   obtain⟨x0,x1⟩:=ap
   replace x1:x≤16777215:=by omega
   have az:=HG.out
   have HQ:Hid (g_ ((a_ s).take (j+4))=g_ ((a_ s).take j)++[x/65536,x/256%256,x%256]):=dM (by rw[HC.out,az])
   have N:(g_ ((a_ s).take j)).length≤65536:=by rw[Ga,ep,j_];omega
   obtain⟨n,q⟩:=yaa ((g_ ((a_ s).take j)).length)
   obtain⟨D,Q⟩:=yaa (g_ ((a_ s).take j))
   rw[←Q]at q HQ I N
   rw[←q]at I N
   have aM:Hid (n+3=(g_ ((a_ s).take (j+4))).length):=dM (by rw[HQ.out,dS,←q];rfl)
   have V:B≤wr.heap.size:=by have:=ad.out.size;rw[←HB.out]at this;exact this
   clear hx HG HC ab ah q az Q
   go_wp2_with(first
    |(go_at_call 93;refine(HJ.out _).mono ?_;rintro e w' ⟨rfl,rfl⟩)
    |(at_builtin;refine fm _ rfl (.tmp 36) (.tmp 45) 46 rfl B 5 i0 (.int .u8 0) 1 1 ee ak ag af ae rfl (by decide) _ n _ rfl (I.out.alloc _) ⟨wr.heap.size,0,none⟩ 3 3 [.int .u8 (x/65536),.int .u8 (x/256%256),.int .u8 (x%256)] rfl rfl ?c1 ?c2 ?c3 ?c4 ?c5 ?_))
   case c1=>
    intro t u F
    rw[eW,ki _ _ _ _ _ _ (eC wr _),eL]
    simpa using F
   case c2=>intro u F;simp at F;rcases F with rfl|rfl|rfl<;>rfl
   case c3=>unfold maxLen;omega
   case c4=>omega
   case c5=>simp;omega
   intro v' w' ar O _
   have HW:Hid (w'.ownsRow B 5 1 v' (g_ ((a_ s).take (j+4))).length (c_ .u8 (g_ ((a_ s).take (j+4))))∧Below B w w'):=dM ⟨by
    rw[←aM.out,HQ.out,vX];exact ar,(ad.out.alloc V _).grown O (by simp;omega) (rF I.out)⟩
   clear ar O
   go_wp2_with fail
   go_roundw
   case rel=>exact⟨j+4,by omega,by omega,by go_num,HW.out.1,HW.out.2⟩
   case measure=>simp[intOf];omega
  ·have aJ: ¬(j:Int)<(s.size:Int)-(s.size:Int)%4:=by omega
   have aw:j=s.size-s.size%4:=by omega
   have aH:s.size%4≠1:=by
    have:=HF.out
    have aI:=Hz (a_ s)
    unfold nM at this
    rw[j_]at this aI
    intro R
    rw[R]at this
    split at this
    ·omega
    ·rw[dN (by decide),dP rfl]at this;omega
   have HC:Hid (g_ (a_ s)=g_ ((a_ s).take j)++g_ ((a_ s).drop j)):=dM (by
    have:=zo (a_ s) j ax (by rw[j_];exact hj) s.size hj
    rw[eo (by rw[j_];omega)]at this
    exact this)
   have ao:Hid (∀W:World,Calls prog 94 #[.string (s.extract (s.size-s.size%4) s.size)] W fun e w'=>e= .returned (.slice (some ⟨W.heap.size,0,none⟩) (g_ ((a_ s).drop j)).length 3)∧Lies w' (some ⟨W.heap.size,0,none⟩) (g_ ((a_ s).drop j))∧Below W.heap.size W w'):=dM fun W=>by
    have R:a_ (s.extract (s.size-s.size%4) s.size)=(a_ s).drop j:=by
     rw[pF,←aw,eo (by rw[j_];omega)]
    have hz:(s.extract (s.size-s.size%4) s.size).size=s.size%4:=by
     rw[←j_,R,eq,j_];omega
    have:=NG (s.extract (s.size-s.size%4) s.size) W (by rw[hz];omega) (by
     rw[R]
     have:=aF.out.part j s.size
     rw[eo (by rw[j_];omega)]at this
     exact this)
    rw[R]at this
    exact this
   have N:(g_ ((a_ s).take j)).length≤65536:=by rw[Ga,ep,j_];omega
   have hm:(g_ ((a_ s).drop j)).length≤65536:=by rw[Ga,eq,j_];omega
   obtain⟨E,hE⟩:=yaa (g_ ((a_ s).drop j))
   obtain⟨D,Q⟩:=yaa (g_ ((a_ s).take j))
   rw[←hE]at HC ao hm
   rw[←Q]at HC I N
   obtain⟨n,q⟩:=yaa D.length
   obtain⟨m,aj⟩:=yaa E.length
   rw[←q]at I N
   rw[←aj]at ao hm
   have U:Hid (n=D.length∧m=E.length):=dM ⟨q,aj⟩
   have V:B≤wr.heap.size:=by have:=ad.out.size;rw[←HB.out]at this;exact this
   clear hE Q q aj aw aH
   have aN:=dM (fun(L:World) (G:Lies L (some ⟨wr.heap.size,0,none⟩) E)=>show ∀(t:Nat) (u:Value),(c_ .u8 E)[t]? =some u→L.cell? ((⟨wr.heap.size,0,none⟩:Addr).add t)=some u from fun t u F=>by
    have ht:=(eP.1 F).1
    rw[b_]at ht
    obtain⟨b,o,he,_,_,Z⟩:=G (by omega)
    injection he with he
    injection he with aL aK _
    subst aL;subst aK
    rw[eW]
    exact Z t u F)
   go_wp2_with(first
    |(go_at_call 94;refine(ao.out _).mono ?_;rintro e L ⟨rfl,G,aa⟩;have aE:=dM (I.out.kept (w':=L) (row:=none) (od aa none) (kn _));have aP:=dM (ad.out.trans (aa.mono V));have aq:B≤L.heap.size:=dV V aa.size;have aO:=dM (aN.out L G);clear G aa)
    |(at_builtin;refine fm _ rfl (.tmp 47) (.tmp 51) 46 rfl B 5 i0 (.int .u8 0) 1 1 ee ak ag af ae rfl (by decide) _ n _ rfl aE.out ⟨wr.heap.size,0,none⟩ m 3 (c_ .u8 E) rfl ?c1 aO.out (oW _ _) ?c3 ?c4 aq ?_))
   case c1=>rw[b_,U.out.2,Nat.mul_one]
   case c3=>unfold maxLen;omega
   case c4=>omega
   intro v' w2 ai O _
   have aB:Below B w w2:=aP.out.grown O aq (rF aE.out)
   rw[←vX]at ai
   obtain⟨A,c,rfl,Z,G⟩:=H9 ai (by rw[dS,←U.out.1,←U.out.2])
   have av:n+m=(g_ (a_ s)).length:=by rw[HC.out,dS,←U.out.1,←U.out.2]
   have HR:Hid (n+m=(g_ (a_ s)).length∧n+m≤c∧Lies w2 A (g_ (a_ s))∧Below w.heap.size w w2):=dM ⟨av,Z,by rw[HC.out];exact G,by rw[←HB.out];exact aB⟩
   clear ai O aB Z G av
   go_wp2_with fail
   go_ret2
   exact⟨A,c,by rw[←HR.out.1];rfl,by rw[←HR.out.1];exact HR.out.2.1,HR.out.2.2⟩
theorem RepJ.open {W:World} {j:J} {v:Value} (h:RepJ W j v): ∃q A c,v= .agg #[.int .i64 j.kind,.int .i64 j.n,.string j.s,.slice A j.l.length c,q]∧j.s.size≤9223372036854775807∧RepK W j.k q∧j.l.length≤9223372036854775807∧
  (j.l≠[]→ ∃b o,A=some ⟨b,o,none⟩∧b<W.heap.size∧RepC W b o j.l):=by
 cases j;rw[RepJ]at h;exact h
theorem RepK.open {W:World} {k:List ByteArray} {v:Value} (h:RepK W k v): ∃A c,v= .slice A k.length c∧k.length≤9223372036854775807∧ ∀i (hi:i<k.length),∃b o,A=some ⟨b,o,none⟩∧b<W.heap.size∧(k[i]).size≤9223372036854775807∧W.cell? ⟨b,o+i,none⟩=some (.string k[i]):=by
 obtain⟨A,c,e,B,E⟩:=h
 refine⟨A,c,e,B,fun i hi=> ?_⟩
 obtain⟨b,o,I,q,D⟩:=E (fun e=>by rw[e]at hi;exact absurd hi (gU _))
 obtain⟨t,h1,G,F⟩:=D i hi
 rw[dZ hi]at h1
 obtain rfl:=gh h1
 exact⟨b,o,I,q,G,F⟩
theorem Mp: ∀{l m:List J},wh l m=true↔l.length=m.length∧ ∀i (h1:i<l.length) (q:i<m.length),s9 l[i] m[i]=true
 |[],[]=>by simp[wh]
 |[],_::_=>by simp[wh]
 |_::_,[]=>by simp[wh]
 |x::r,y::t=>by
  rw[wh,fb,Mp (l:=r) (m:=t)]
  constructor
  ·rintro⟨h1,q,E⟩
   refine⟨by simp[q],fun i D B=> ?_⟩
   cases i with
   |zero=>exact h1
   |succ i=>exact E i (by simpa using D) (by simpa using B)
  ·rintro⟨h1,q⟩
   exact⟨q 0 (by simp) (by simp),by simpa using h1,fun i D B=>q (i+1) (by simpa using D) (by simpa using B)⟩
theorem sK {a b:ByteArray} (h:a=b):(a.toList==b.toList)=true:=by rw[BG];exact ec h
theorem JW {a b:ByteArray} (h:a≠b):(a.toList==b.toList)=false:=by rw[BG];exact dT h
def f_ (l:List Int) (i:Nat):Int:=l.getD i (-1)
theorem FY (s:ByteArray) (i:Nat) (h:i<s.size):f_ (a_ s) i=(s[i].toNat:Int):=by
 rw[←o_ s i h,f_]
 have q:i<(a_ s).length:=by rw[j_];exact h
 rw[dR,dR,dZ q]
 rfl
theorem Jn (s:ByteArray) (i:Nat) (h:s.size≤i):f_ (a_ s) i= -1:=by
 rw[f_,dR,fJ (by rw[j_];exact h)]
 rfl
def zi (c:Int):Bool:=decide (c=32∨c=9∨c=10∨c=13)
def d_ (l:List Int) (i:Nat):Nat:=if h:i<l.length then(if zi (f_ l i)then d_ l (i+1)else i)else i
termination_by l.length-i
decreasing_by omega
theorem Lp {l:List Int} {i:Nat} (h:zi (f_ l i)=true):d_ l i=d_ l (i+1):=by
 by_cases q:i<l.length
 ·rw[d_,dif_pos q,dP h]
 ·exfalso
  rw[f_,dR,fJ (by omega)]at h
  exact absurd h (by decide)
theorem Is {l:List Int} {i:Nat} (h: ¬zi (f_ l i)=true):d_ l i=i:=by
 by_cases q:i<l.length
 ·rw[d_,dif_pos q,dN h]
 ·rw[d_,dif_neg q]
theorem BQ: ∀(n:Nat) (l:List Int) (i:Nat),l.length-i≤n→i≤l.length→i≤d_ l i∧d_ l i≤l.length
 |0,l,i,hn,hi=>by rw[d_,dif_neg (by omega)];omega
 |n+1,l,i,hn,hi=>by
  rw[d_]
  split
  ·split
   ·have:=BQ n l (i+1) (by omega) (by omega)
    omega
   ·omega
  ·omega
theorem M0 (x:UInt8):wrap64 (x.toNat:Int)=(x.toNat:Int):=by
 have:=x.toNat_lt
 unfold wrap64
 omega
theorem tl (s:ByteArray) (i:Nat) (w:World) (E:s.size≤9223372036854775807) (hi:i≤9223372036854775807):
  Calls prog 101 #[.string s,.int .i64 (i:Int)] w fun e w'=>e= .returned (.int .i64 (f_ (a_ s) i))∧w=w':=by
 by_cases h:i<s.size
 ·have q:=dM (FY s i h)
  have B:(i:Int)<(s.size:Int):=by omega
  have F:(0:Int)≤(i:Int):=by omega
  have D:Hid (wrap64 (s[i].toNat:Int)=(s[i].toNat:Int)):=dM (M0 s[i])
  go_enter func101,ntmps101
  go_wp2
  go_ret
  exact⟨tg (D.out.trans q.out.symm),rfl⟩
 ·have q:=dM (Jn s i (by omega))
  have B: ¬(i:Int)<(s.size:Int):=by omega
  clear h
  go_enter func101,ntmps101
  go_wp2
  go_ret
  exact⟨tg q.out.symm,rfl⟩
theorem Hp (s:ByteArray) (i:Nat) (w:World) (U:s.size≤9223372036854775807) (hi:i≤s.size):
  Calls prog 73 #[.string s,.int .i64 (i:Int)] w fun e w'=>e= .returned (.int .i64 (d_ (a_ s) i:Nat))∧w=w':=by
 have R:=dM hi
 clear hi
 go_enter func73,ntmps73
 go_wp2
 go_loop [1] (fun v=> ∃k:Nat,k≤s.size∧v= .int .i64 (k:Int)∧d_ (a_ s) i=d_ (a_ s) k) (fun v=>s.size-(intOf v).toNat)
 case atStart=>exact⟨i,R.out,rfl,rfl⟩
 case round=>
  obtain⟨k,V,rfl,L⟩:=hrel
  have E:=dM L
  clear L
  by_cases h:k<s.size
  ·have N:=dM (FY s k h)
   have O:(k:Int)<(s.size:Int):=by omega
   have W:(0:Int)≤(k:Int):=by omega
   obtain⟨c,M⟩: ∃c:Int,c=(s[k].toNat:Int):=⟨_,rfl⟩
   have q: ∀d:Int,(s[k].toNat:Int)≠d→((s[k].toNat:Int)==d)=false:=fun d h=>by rw[dY];exact h
   by_cases B:zi (f_ (a_ s) k)=true
   ·have D:=dM (Lp B)
    rw[N.out,zi,eb]at B
    clear M
    by_cases F:(s[k].toNat:Int)=32
    ·clear B q
     go_wp2
     exact⟨⟨k+1,by omega,by go_num,E.out.trans D.out⟩,by simp[intOf];omega⟩
    ·have Z:=q 32 F
     by_cases G:(s[k].toNat:Int)=9
     ·clear B q F
      go_wp2
      exact⟨⟨k+1,by omega,by go_num,E.out.trans D.out⟩,by simp[intOf];omega⟩
     ·have Y:=q 9 G
      by_cases I:(s[k].toNat:Int)=10
      ·clear B q F G
       go_wp2
       exact⟨⟨k+1,by omega,by go_num,E.out.trans D.out⟩,by simp[intOf];omega⟩
      ·have X:=q 10 I
       have Q:(s[k].toNat:Int)=13:=by omega
       clear B q F G I
       go_wp2
       exact⟨⟨k+1,by omega,by go_num,E.out.trans D.out⟩,by simp[intOf];omega⟩
   ·have D:=dM (Is B)
    rw[N.out,zi,eb]at B
    have F:=q 32 (by omega)
    have G:=q 9 (by omega)
    have I:=q 10 (by omega)
    have Q:=q 13 (by omega)
    clear M B q
    go_wp2
    go_ret
    rw[E.out,D.out]
    exact⟨rfl,rfl⟩
  ·have D:Hid (d_ (a_ s) k=k):=dM (by rw[d_,dif_neg (by rw[j_];exact h)])
   have O: ¬(k:Int)<(s.size:Int):=by omega
   clear h
   go_wp2
   go_ret
   rw[E.out,D.out]
   exact⟨rfl,rfl⟩
theorem Iq (s:ByteArray) (I:Int) (i:Nat) (w:World) (B:I=(i:Int)) (q:s.size≤9223372036854775807) (hi:i≤9223372036854775807):
  Calls prog 101 #[.string s,.int .i64 I] w fun e w'=>e= .returned (.int .i64 (f_ (a_ s) i))∧w=w':=by
 subst B;exact tl s i w q hi
def oA (l:List Int):Nat→List Int→Nat×Int
 |i,[]=>(i,0)
 |i,c::r=>if f_ l i=c then oA l (i+1) r else(i,50)
theorem Mz {l x:List Int} {i k:Nat} (h:k<x.length):oA l i (x.drop k)=if f_ l i=x.getD k 0 then oA l (i+1) (x.drop (k+1))else(i,50):=by
 rw[eD h,oA,dR,dZ h]
 rfl
theorem ql (s:ByteArray) (i:Nat): -1≤f_ (a_ s) i∧f_ (a_ s) i≤255:=by
 rcases eX i s.size with h|h
 ·rw[FY s i h];have:=(s[i]).toNat_lt;omega
 ·rw[Jn s i h];omega
theorem Lu (s x:ByteArray) (i:Nat) (w:World) (Y:s.size≤9223372036854775807) (V:x.size≤300) (hi:i≤9223372036854770000):
  Calls prog 104 #[.string s,.int .i64 (i:Int),.string x] w fun e w'=>e= .returned (.tuple #[.int .i64 ((oA (a_ s) i (a_ x)).1:Int),.int .i64 (oA (a_ s) i (a_ x)).2])∧Below w.heap.size w w':=by
 have N:=dM (j_ x)
 go_enter func104,ntmps104
 go_wp2
 go_loopw[8] (fun v wr=> ∃k:Nat,k≤x.size∧v= .int .i64 (k:Int)∧oA (a_ s) i (a_ x)=oA (a_ s) (i+k) ((a_ x).drop k)∧Below w.heap.size w wr) (fun v _=>x.size-(intOf v).toNat)
 case atStart=>exact⟨0,by omega,rfl,rfl,dU _ _⟩
 case round=>
  obtain⟨k,Z,rfl,I,M⟩:=hrel
  have F:=dM I
  have G:=dM M
  clear I M
  by_cases h:k<x.size
  ·have E:=dM (Mz (l:=a_ s) (i:=i+k) (k:=k) (x:=a_ x) (by rw[N.out];exact h))
   have U:=dM (o_ x k h)
   have X:wrap64 ((x[k]'h).toNat:Int)=((x[k]'h).toNat:Int):=M0 _
   have HB:=dM (ql s (i+k))
   obtain⟨c,B⟩:=yaa (f_ (a_ s) (i+k))
   have O:Hid (∀W:World,Calls prog 101 #[.string s,.int .i64 ((i:Int)+(k:Int))] W fun e w'=>e= .returned (.int .i64 c)∧w'=W):=dM fun W=>by
    rw[B]
    exact(Iq s _ (i+k) W (by omega) (by omega) (by omega)).mono fun _ _ (L:_∧_)=>(⟨L.1,L.2.symm⟩:_∧_)
   rw[U.out,←B]at E
   have h0:(0:Int)≤(k:Int):=by omega
   have Q:(k:Int)<(x.size:Int):=by omega
   clear B
   by_cases e:c=((x[k]'h).toNat:Int)
   ·have D:(c==((x[k]'h).toNat:Int))=true:=by rw[gm];exact e
    have R:(c !=((x[k]'h).toNat:Int))=false:=by rw[bne,D];rfl
    have q:Hid (oA (a_ s) (i+k) ((a_ x).drop k)=oA (a_ s) (i+(k+1)) ((a_ x).drop (k+1))):=dM (by rw[E.out,dP e];rfl)
    clear e
    go_wp2
    go_quiet ((go_at_call 101;exact eG (O.out _)))
    go_wp2
    go_roundw
    case rel=>exact⟨k+1,by omega,by go_num,F.out.trans q.out,rG G.out _⟩
    case measure=>simp[intOf];omega
   ·have D:(c==((x[k]'h).toNat:Int))=false:=by rw[dY];exact e
    have R:(c !=((x[k]'h).toNat:Int))=true:=by rw[bne,D];rfl
    have q:Hid (oA (a_ s) (i+k) ((a_ x).drop k)=(i+k,50)):=dM (by rw[E.out,dN e])
    clear e
    go_wp2
    go_quiet ((go_at_call 101;exact eG (O.out _)))
    go_wp2
    go_ret2
    rw[F.out,q.out]
    exact⟨rfl,rG G.out _⟩
  ·obtain rfl:k=x.size:=by omega
   have Q: ¬(x.size:Int)<(x.size:Int):=by omega
   have q:Hid (oA (a_ s) (i+x.size) ((a_ x).drop x.size)=(i+x.size,0)):=dM (by rw[fo (by rw[N.out];exact dQ _),oA])
   go_wp2
   go_ret2
   rw[F.out,q.out]
   exact⟨rfl,G.out⟩
def nf (c:Int):Int:=if 48≤c∧c≤57 then c-48 else if 97≤c∧c≤102 then c-97+10 else if 65≤c∧c≤70 then c-65+10 else-1
def mX (l:List Int):Nat→Nat→Int→Int×Int
 |0,_,n=>(n,0)
 |k+1,i,n=>if nf (f_ l i)<0 then(-1,((min i l.length:Nat):Int))else mX l k (i+1) (16*n+nf (f_ l i))
theorem xr (s:ByteArray) (i:Nat) (w:World) (hs:s.size≤9223372036854775807) (hi:i≤9223372036854770000):
  Calls prog 138 #[.string s,.int .i64 (i:Int)] w fun e w'=>e= .returned (.tuple #[.int .i64 (mX (a_ s) 4 i 0).1,.int .i64 (mX (a_ s) 4 i 0).2])∧Below w.heap.size w w':=by
 have HL:=dM (j_ s)
 go_enter func138,ntmps138
 go_wp2
 go_loopw[6,7] (fun u v wr=> ∃(j:Nat) (n:Int),j≤4∧v= .int .i64 ((i:Int)+(j:Int))∧u= .int .i64 n∧0≤n∧n<16^j∧mX (a_ s) 4 i 0=mX (a_ s) (4-j) (i+j) n∧Below w.heap.size w wr) (fun _ v _=>i+4-(intOf v).toNat)
 case atStart=>exact⟨0,0,by omega,by simp,rfl,by omega,by decide,rfl,dU _ _⟩
 case round=>
  obtain⟨j,n,hj,rfl,rfl,ad,U,Q,X⟩:=hrel
  have E:=dM Q
  have D:=dM X
  have aa:=dM U
  have ab:n≤65536:=by
   have:j=0∨j=1∨j=2∨j=3∨j=4:=by omega
   rcases this with rfl|rfl|rfl|rfl|rfl<;>omega
  clear Q X U
  by_cases h:j<4
  ·have h2:(i:Int)+(j:Int)<(i:Int)+4:=by omega
   obtain⟨c,M⟩:=yaa (f_ (a_ s) (i+j))
   have Y:=ql s (i+j)
   rw[←M]at Y
   obtain⟨af,ae⟩:=Y
   have G:Hid (∀W:World,Calls prog 101 #[.string s,.int .i64 ((i:Int)+(j:Int))] W fun e w'=>e= .returned (.int .i64 c)∧w'=W):=dM fun W=>by
    rw[M]
    exact(Iq s _ (i+j) W (by omega) (by omega) (by omega)).mono fun _ _ (V:_∧_)=>(⟨V.1,V.2.symm⟩:_∧_)
   have F:Hid (mX (a_ s) (4-j) (i+j) n=if nf c<0 then(-1,((min (i+j) s.size:Nat):Int))else mX (a_ s) (4-(j+1)) (i+(j+1)) (16*n+nf c)):=dM (by
    rw[show 4-j=(4-(j+1))+1 by omega,mX,←M,HL.out];rfl)
   have O:Hid (∀d:Int,d≤15→16*n+d<16^(j+1)):=dM fun d hd=>by have:=aa.out;rw[jP];omega
   clear M
   have Z:(c<48)∨(48≤c∧c≤57)∨(58≤c∧c≤64)∨(65≤c∧c≤70)∨(71≤c∧c≤96)∨(97≤c∧c≤102)∨(103≤c):=by omega
   rcases Z with hv|hv|hv|hv|hv|hv|hv
   ·have t0: ¬48≤c:=by omega
    have L:c≤57:=by omega
    have I: ¬97≤c:=by omega
    have t3:c≤102:=by omega
    have t4: ¬65≤c:=by omega
    have t5:c≤70:=by omega
    have B:Hid (nf c= -1):=dM (by unfold nf;rw[dN (by omega),dN (by omega),dN (by omega)])
    have q:Hid (mX (a_ s) 4 i 0=(-1,((min (i+j) s.size:Nat):Int))):=dM (by rw[E.out,F.out,B.out,dP (by decide)])
    have N:(-1:Int)<0:=by decide
    clear hv
    go_wp2_with(go_at_call 101;(with_reducible refine(G.out _).mono ?_);rintro e w' ⟨rfl,rfl⟩)
    all_goals go_ret2
    all_goals rw[q.out]
    ·rw[show min (i+j) s.size=s.size by omega];exact⟨rfl,D.out⟩
    ·rw[show min (i+j) s.size=i+j by omega];exact⟨rfl,D.out⟩
   ·have t0:48≤c:=by omega
    have L:c≤57:=by omega
    have I: ¬97≤c:=by omega
    have t3:c≤102:=by omega
    have t4: ¬65≤c:=by omega
    have t5:c≤70:=by omega
    have B:Hid (nf c=c-48):=dM (by unfold nf;rw[dP (by omega)])
    have q:Hid (mX (a_ s) 4 i 0=mX (a_ s) (4-(j+1)) (i+(j+1)) (16*n+(c-48))):=dM (by rw[E.out,F.out,B.out,dN (by omega)])
    have R: ¬(c-48)<0:=by omega
    clear hv
    go_wp2_with(go_at_call 101;(with_reducible refine(G.out _).mono ?_);rintro e w' ⟨rfl,rfl⟩)
    go_roundw
    case rel=>exact⟨j+1,16*n+(c-48),by omega,by go_num,by go_num,by omega,O.out _ (by omega),q.out,D.out⟩
    case measure=>simp[intOf];omega
   ·have t0:48≤c:=by omega
    have L: ¬c≤57:=by omega
    have I: ¬97≤c:=by omega
    have t3:c≤102:=by omega
    have t4: ¬65≤c:=by omega
    have t5:c≤70:=by omega
    have B:Hid (nf c= -1):=dM (by unfold nf;rw[dN (by omega),dN (by omega),dN (by omega)])
    have q:Hid (mX (a_ s) 4 i 0=(-1,((min (i+j) s.size:Nat):Int))):=dM (by rw[E.out,F.out,B.out,dP (by decide)])
    have N:(-1:Int)<0:=by decide
    clear hv
    go_wp2_with(go_at_call 101;(with_reducible refine(G.out _).mono ?_);rintro e w' ⟨rfl,rfl⟩)
    all_goals go_ret2
    all_goals rw[q.out]
    ·rw[show min (i+j) s.size=s.size by omega];exact⟨rfl,D.out⟩
    ·rw[show min (i+j) s.size=i+j by omega];exact⟨rfl,D.out⟩
   ·have t0:48≤c:=by omega
    have L: ¬c≤57:=by omega
    have I: ¬97≤c:=by omega
    have t3:c≤102:=by omega
    have t4:65≤c:=by omega
    have t5:c≤70:=by omega
    have B:Hid (nf c=c-65+10):=dM (by unfold nf;rw[dN (by omega),dN (by omega),dP (by omega)])
    have q:Hid (mX (a_ s) 4 i 0=mX (a_ s) (4-(j+1)) (i+(j+1)) (16*n+(c-65+10))):=dM (by rw[E.out,F.out,B.out,dN (by omega)])
    have R: ¬(c-65+10)<0:=by omega
    clear hv
    go_wp2_with(go_at_call 101;(with_reducible refine(G.out _).mono ?_);rintro e w' ⟨rfl,rfl⟩)
    go_roundw
    case rel=>exact⟨j+1,16*n+(c-65+10),by omega,by go_num,by go_num,by omega,O.out _ (by omega),q.out,D.out⟩
    case measure=>simp[intOf];omega
   ·have t0:48≤c:=by omega
    have L: ¬c≤57:=by omega
    have I: ¬97≤c:=by omega
    have t3:c≤102:=by omega
    have t4:65≤c:=by omega
    have t5: ¬c≤70:=by omega
    have B:Hid (nf c= -1):=dM (by unfold nf;rw[dN (by omega),dN (by omega),dN (by omega)])
    have q:Hid (mX (a_ s) 4 i 0=(-1,((min (i+j) s.size:Nat):Int))):=dM (by rw[E.out,F.out,B.out,dP (by decide)])
    have N:(-1:Int)<0:=by decide
    clear hv
    go_wp2_with(go_at_call 101;(with_reducible refine(G.out _).mono ?_);rintro e w' ⟨rfl,rfl⟩)
    all_goals go_ret2
    all_goals rw[q.out]
    ·rw[show min (i+j) s.size=s.size by omega];exact⟨rfl,D.out⟩
    ·rw[show min (i+j) s.size=i+j by omega];exact⟨rfl,D.out⟩
   ·have t0:48≤c:=by omega
    have L: ¬c≤57:=by omega
    have I:97≤c:=by omega
    have t3:c≤102:=by omega
    have t4:65≤c:=by omega
    have t5: ¬c≤70:=by omega
    have B:Hid (nf c=c-97+10):=dM (by unfold nf;rw[dN (by omega),dP (by omega)])
    have q:Hid (mX (a_ s) 4 i 0=mX (a_ s) (4-(j+1)) (i+(j+1)) (16*n+(c-97+10))):=dM (by rw[E.out,F.out,B.out,dN (by omega)])
    have R: ¬(c-97+10)<0:=by omega
    clear hv
    go_wp2_with(go_at_call 101;(with_reducible refine(G.out _).mono ?_);rintro e w' ⟨rfl,rfl⟩)
    go_roundw
    case rel=>exact⟨j+1,16*n+(c-97+10),by omega,by go_num,by go_num,by omega,O.out _ (by omega),q.out,D.out⟩
    case measure=>simp[intOf];omega
   ·have t0:48≤c:=by omega
    have L: ¬c≤57:=by omega
    have I:97≤c:=by omega
    have t3: ¬c≤102:=by omega
    have t4:65≤c:=by omega
    have t5: ¬c≤70:=by omega
    have B:Hid (nf c= -1):=dM (by unfold nf;rw[dN (by omega),dN (by omega),dN (by omega)])
    have q:Hid (mX (a_ s) 4 i 0=(-1,((min (i+j) s.size:Nat):Int))):=dM (by rw[E.out,F.out,B.out,dP (by decide)])
    have N:(-1:Int)<0:=by decide
    clear hv
    go_wp2_with(go_at_call 101;(with_reducible refine(G.out _).mono ?_);rintro e w' ⟨rfl,rfl⟩)
    all_goals go_ret2
    all_goals rw[q.out]
    ·rw[show min (i+j) s.size=s.size by omega];exact⟨rfl,D.out⟩
    ·rw[show min (i+j) s.size=i+j by omega];exact⟨rfl,D.out⟩
  ·obtain rfl:j=4:=by omega
   have q:Hid (mX (a_ s) 4 i 0=(n,0)):=dM (by rw[E.out];rfl)
   have h2: ¬(i:Int)+4<(i:Int)+4:=by omega
   go_wp2
   go_ret2
   rw[q.out]
   exact⟨rfl,D.out⟩
def nQ (c:Int):List Int:=if c=34∨c=92∨c=47 then[c]else if c=98 then[8]else if c=102 then[12]else if c=110 then[10]else if c=114 then[13]else if c=116 then[9]else[]
theorem Fv (x:Int) (W:World):(convert 46 9 (.slice (some ⟨W.heap.size,0,none⟩) 1 1)).run prog (W.alloc (.cells #[.int .u8 x] 5))= .ok (.string (toS [x])) (W.alloc (.cells #[.int .u8 x] 5)):=
 zK _ [x] 1 1 _ rfl (Lies.lit W _ _ _)
theorem rZ (c:Int) (w:World):Calls prog 137 #[.int .i64 c] w fun e w'=>e= .returned (.string (toS (nQ c)))∧Below w.heap.size w w':=by
 by_cases h:c=34∨c=92∨c=47∨c=98∨c=102∨c=110∨c=114∨c=116
 ·rcases h with rfl|rfl|rfl|rfl|rfl|rfl|rfl|rfl
  ·rw[show nQ 34=[34]by decide]
   have B:=fun W=>Fv 34 W
   obtain⟨T,q⟩:=yaa (toS [34])
   rw[←q]at B⊢
   clear q
   go_enter jD,ji
   go_wp2
   go_ret
   exact⟨rfl,nO _ _⟩
  ·rw[show nQ 92=[92]by decide]
   have B:=fun W=>Fv 92 W
   obtain⟨T,q⟩:=yaa (toS [92])
   rw[←q]at B⊢
   clear q
   go_enter jD,ji
   go_wp2
   go_ret
   exact⟨rfl,nO _ _⟩
  ·rw[show nQ 47=[47]by decide]
   have B:=fun W=>Fv 47 W
   obtain⟨T,q⟩:=yaa (toS [47])
   rw[←q]at B⊢
   clear q
   go_enter jD,ji
   go_wp2
   go_ret
   exact⟨rfl,nO _ _⟩
  ·rw[show nQ 98=[8]by decide]
   have B:=fun W=>Fv 8 W
   obtain⟨T,q⟩:=yaa (toS [8])
   rw[←q]at B⊢
   clear q
   go_enter jD,ji
   go_wp2
   go_ret
   exact⟨rfl,nO _ _⟩
  ·rw[show nQ 102=[12]by decide]
   have B:=fun W=>Fv 12 W
   obtain⟨T,q⟩:=yaa (toS [12])
   rw[←q]at B⊢
   clear q
   go_enter jD,ji
   go_wp2
   go_ret
   exact⟨rfl,nO _ _⟩
  ·rw[show nQ 110=[10]by decide]
   have B:=fun W=>Fv 10 W
   obtain⟨T,q⟩:=yaa (toS [10])
   rw[←q]at B⊢
   clear q
   go_enter jD,ji
   go_wp2
   go_ret
   exact⟨rfl,nO _ _⟩
  ·rw[show nQ 114=[13]by decide]
   have B:=fun W=>Fv 13 W
   obtain⟨T,q⟩:=yaa (toS [13])
   rw[←q]at B⊢
   clear q
   go_enter jD,ji
   go_wp2
   go_ret
   exact⟨rfl,nO _ _⟩
  ·rw[show nQ 116=[9]by decide]
   have B:=fun W=>Fv 9 W
   obtain⟨T,q⟩:=yaa (toS [9])
   rw[←q]at B⊢
   clear q
   go_enter jD,ji
   go_wp2
   go_ret
   exact⟨rfl,nO _ _⟩
 ·rw[show nQ c=[]by unfold nQ;rw[dN (by omega),dN (by omega),dN (by omega),dN (by omega),dN (by omega),dN (by omega)]]
  have N:(c==34)=false:=by rw[dY];omega
  have M:(c==92)=false:=by rw[dY];omega
  have L:(c==47)=false:=by rw[dY];omega
  have I:(c==98)=false:=by rw[dY];omega
  have G:(c==102)=false:=by rw[dY];omega
  have F:(c==110)=false:=by rw[dY];omega
  have E:(c==114)=false:=by rw[dY];omega
  have D:(c==116)=false:=by rw[dY];omega
  clear h
  go_enter jD,ji
  go_wp2
  go_ret
  exact⟨rfl,dU _ _⟩
theorem t8 (n:Int) (w:World) (h:n<0∨1114111<n∨(55296≤n∧n≤57343)):
  Calls prog 139 #[.int .i64 n] w fun e w'=>e= .returned (.string (toS (i_ n)))∧Below w.heap.size w w':=by
 have q:toS (i_ n)=⟨#[]⟩:=by rw[Ii h];rfl
 rw[q]
 clear q
 rcases h with h|h|⟨h,B⟩
 all_goals
  go_enter kX,kD
  go_wp2
  go_ret
  exact⟨rfl,dU _ _⟩
theorem xl (n:Int) (w:World) (h0:0≤n) (h1:n<128):
  Calls prog 139 #[.int .i64 n] w fun e w'=>e= .returned (.string (toS (i_ n)))∧Below w.heap.size w w':=by
 have q:i_ n=[n]:=G_ h0 h1
 have D: ∀W:World,(convert 46 9 (.slice (some ⟨W.heap.size,0,none⟩) 1 1)).run prog (W.alloc (.cells #[.int .u8 (n)] 5))= .ok (.string (toS [n])) (W.alloc (.cells #[.int .u8 (n)] 5)):=fun W=>
  zK _ [n] 1 1 _ rfl (Lies.lit W _ _ _)
 rw[q]
 obtain⟨S,B⟩:=yaa (toS [n])
 rw[←B]at D⊢
 clear B q
 go_enter kX,kD
 go_wp2
 go_ret
 exact⟨rfl,nO _ _⟩
theorem xk (n:Int) (w:World) (h0:128≤n) (h1:n<2048):
  Calls prog 139 #[.int .i64 n] w fun e w'=>e= .returned (.string (toS (i_ n)))∧Below w.heap.size w w':=by
 have q:i_ n=[192+n/64,128+n%64]:=Jv h0 h1
 have D: ∀W:World,(convert 46 9 (.slice (some ⟨W.heap.size,0,none⟩) 2 2)).run prog (W.alloc (.cells #[.int .u8 (192+n/64),.int .u8 (128+n%64)] 5))= .ok (.string (toS [192+n/64,128+n%64])) (W.alloc (.cells #[.int .u8 (192+n/64),.int .u8 (128+n%64)] 5)):=fun W=>
  zK _ [192+n/64,128+n%64] 2 2 _ rfl (Lies.lit W _ _ _)
 rw[q]
 obtain⟨S,B⟩:=yaa (toS [192+n/64,128+n%64])
 rw[←B]at D⊢
 clear B q
 go_enter kX,kD
 go_wp2
 go_ret
 exact⟨rfl,nO _ _⟩
theorem rY (n:Int) (w:World) (h0:2048≤n) (h1:n<65536) (E:n<55296):
  Calls prog 139 #[.int .i64 n] w fun e w'=>e= .returned (.string (toS (i_ n)))∧Below w.heap.size w w':=by
 have q:i_ n=[224+n/4096,128+n/64%64,128+n%64]:=Ik h0 h1 (by omega)
 have D: ∀W:World,(convert 46 9 (.slice (some ⟨W.heap.size,0,none⟩) 3 3)).run prog (W.alloc (.cells #[.int .u8 (224+n/4096),.int .u8 (128+n/64%64),.int .u8 (128+n%64)] 5))= .ok (.string (toS [224+n/4096,128+n/64%64,128+n%64])) (W.alloc (.cells #[.int .u8 (224+n/4096),.int .u8 (128+n/64%64),.int .u8 (128+n%64)] 5)):=fun W=>
  zK _ [224+n/4096,128+n/64%64,128+n%64] 3 3 _ rfl (Lies.lit W _ _ _)
 rw[q]
 obtain⟨S,B⟩:=yaa (toS [224+n/4096,128+n/64%64,128+n%64])
 rw[←B]at D⊢
 clear B q
 go_enter kX,kD
 go_wp2
 go_ret
 exact⟨rfl,nO _ _⟩
theorem NO (n:Int) (w:World) (h0:2048≤n) (h1:n<65536) (E:57343<n):
  Calls prog 139 #[.int .i64 n] w fun e w'=>e= .returned (.string (toS (i_ n)))∧Below w.heap.size w w':=by
 have q:i_ n=[224+n/4096,128+n/64%64,128+n%64]:=Ik h0 h1 (by omega)
 have D: ∀W:World,(convert 46 9 (.slice (some ⟨W.heap.size,0,none⟩) 3 3)).run prog (W.alloc (.cells #[.int .u8 (224+n/4096),.int .u8 (128+n/64%64),.int .u8 (128+n%64)] 5))= .ok (.string (toS [224+n/4096,128+n/64%64,128+n%64])) (W.alloc (.cells #[.int .u8 (224+n/4096),.int .u8 (128+n/64%64),.int .u8 (128+n%64)] 5)):=fun W=>
  zK _ [224+n/4096,128+n/64%64,128+n%64] 3 3 _ rfl (Lies.lit W _ _ _)
 rw[q]
 obtain⟨S,B⟩:=yaa (toS [224+n/4096,128+n/64%64,128+n%64])
 rw[←B]at D⊢
 clear B q
 go_enter kX,kD
 go_wp2
 go_ret
 exact⟨rfl,nO _ _⟩
theorem t_ (n:Int) (w:World) (h0:65536≤n) (h1:n≤1114111):
  Calls prog 139 #[.int .i64 n] w fun e w'=>e= .returned (.string (toS (i_ n)))∧Below w.heap.size w w':=by
 have q:i_ n=[240+n/262144,128+n/4096%64,128+n/64%64,128+n%64]:=JS h0 h1
 have D: ∀W:World,(convert 46 9 (.slice (some ⟨W.heap.size,0,none⟩) 4 4)).run prog (W.alloc (.cells #[.int .u8 (240+n/262144),.int .u8 (128+n/4096%64),.int .u8 (128+n/64%64),.int .u8 (128+n%64)] 5))= .ok (.string (toS [240+n/262144,128+n/4096%64,128+n/64%64,128+n%64])) (W.alloc (.cells #[.int .u8 (240+n/262144),.int .u8 (128+n/4096%64),.int .u8 (128+n/64%64),.int .u8 (128+n%64)] 5)):=fun W=>
  zK _ [240+n/262144,128+n/4096%64,128+n/64%64,128+n%64] 4 4 _ rfl (Lies.lit W _ _ _)
 rw[q]
 obtain⟨S,B⟩:=yaa (toS [240+n/262144,128+n/4096%64,128+n/64%64,128+n%64])
 rw[←B]at D⊢
 clear B q
 go_enter kX,kD
 go_wp2
 go_ret
 exact⟨rfl,nO _ _⟩
theorem Lg (n:Int) (w:World):
  Calls prog 139 #[.int .i64 n] w fun e w'=>e= .returned (.string (toS (i_ n)))∧Below w.heap.size w w':=by
 rcases FB n with⟨h,D⟩|⟨h1,q,h⟩|⟨h1,q,h⟩|⟨h1,q,B,h⟩|⟨h1,q,h⟩
 ·exact t8 n w D
 ·exact xl n w h1 q
 ·exact xk n w h1 q
 ·rcases B with B|B
  ·exact rY n w h1 q B
  ·exact NO n w h1 q B
 ·exact t_ n w h1 q
def NoneBelow (l:List Int) (k:Nat):Prop:= ∀q,1≤q→q<k→q≤l.length→ ¬i_ (qs l q)=l.take q
theorem NoneBelow.step {l:List Int} {k:Nat} (h:NoneBelow l k) (B: ¬i_ (qs l k)=l.take k):NoneBelow l (k+1):=fun q h1 E D=>by
 rcases eX q k with hq|hq
 ·exact h q h1 hq D
 ·obtain rfl:q=k:=by omega
  exact B
def IJ (k:Nat):Int:=if k=1 then 256 else if k=2 then 32 else if k=3 then 16 else 8
theorem NN (w:World):
  Calls prog 136 #[.string ⟨#[]⟩] w fun e w'=>e= .returned (.tuple #[.int .i64 (-1),.int .i64 0])∧Below w.heap.size w w':=by
 go_enter func136,ntmps136
 go_wp2
 go_ret2
 exact⟨rfl,dU _ _⟩
theorem sa (s:ByteArray) (w:World) (h0:0<s.size) (aq:s.size≤9223372036854775807):
  Calls prog 136 #[.string s] w fun e w'=>e= .returned (.tuple #[.int .i64 (nd (a_ s)).1,.int .i64 ((nd (a_ s)).2:Int)])∧Below w.heap.size w w':=by
 have Y:=j_ s
 have am:Hid (a_ s≠[]):=dM (fun e=>by rw[e]at Y;simp at Y;omega)
 have HL:=dM Y
 have hz:((s.size:Int)==0)=false:=by rw[dY];omega
 clear Y
 go_enter func136,ntmps136
 go_wp2
 go_loopw[4] (fun v wr=> ∃(k:Nat) (K:Int),1≤k∧k≤5∧K=(k:Int)∧v= .int .i64 K∧NoneBelow (a_ s) k∧Below w.heap.size w wr) (fun v _=>5-(intOf v).toNat)
 case atStart=>exact⟨1,1,by omega,by omega,rfl,rfl,fun q h1 h2 _=>by omega,dU _ _⟩
 case round=>
  obtain⟨k,K,ax,av,hK,rfl,X,Z⟩:=hrel
  have ad:=dM X
  have L:=dM Z
  have D:=dM hK
  have aB:1≤K:=by omega
  by_cases M:K≤4∧K≤(s.size:Int)
  ·obtain⟨aA,az⟩:=M
   have ar:=(s[0]'h0).toNat_lt
   have V:=dM (o_ s 0 h0)
   have h4:K=1∨K=2∨K=3∨K=4:=by omega
   obtain⟨c0,E⟩: ∃c0:Int,c0=(a_ s).getD 0 0%IJ k:=⟨_,rfl⟩
   have ab:0≤c0∧c0≤255:=by
    rw[E,V.out];unfold IJ;split<;>(try split)<;>(try split)<;>omega
   have ap:=dM E
   have HA:=dM (sQ c0 (a_ s) ab)
   have G:Hid (qs (a_ s) k=nS c0 (a_ s) (k-1)):=dM (by rw[ap.out];rfl)
   have ay:k≤s.size:=by have:=D.out;omega
   have aw:k≤4:=by have:=D.out;omega
   obtain⟨aj,ae⟩:Hid (c0=if K=1 then((s[0]'h0).toNat:Int)else if K=2 then((s[0]'h0).toNat:Int)%32 else if K=3 then((s[0]'h0).toNat:Int)%16 else((s[0]'h0).toNat:Int)%8)∧
     ((K==2)=false∧(K==3)=false∧(K==4)=false∧K=1∨(K==2)=true∧K=2∨(K==2)=false∧(K==3)=true∧K=3∨(K==2)=false∧(K==3)=false∧(K==4)=true∧K=4):=by
    rcases h4 with e|e|e|e
    ·obtain rfl:k=1:=by omega
     exact⟨dM (by rw[E,V.out,dP e];show _%256=_;omega),.inl ⟨by rw[e];rfl,by rw[e];rfl,by rw[e];rfl,e⟩⟩
    ·obtain rfl:k=2:=by omega
     exact⟨dM (by rw[E,V.out,dN (by omega),dP e];rfl),.inr (.inl ⟨by rw[e];rfl,e⟩)⟩
    ·obtain rfl:k=3:=by omega
     exact⟨dM (by rw[E,V.out,dN (by omega),dN (by omega),dP e];rfl),.inr (.inr (.inl ⟨by rw[e];rfl,by rw[e];rfl,e⟩))⟩
    ·obtain rfl:k=4:=by omega
     exact⟨dM (by rw[E,V.out,dN (by omega),dN (by omega),dN (by omega)];rfl),.inr (.inr (.inr ⟨by rw[e];rfl,by rw[e];rfl,by rw[e];rfl,e⟩))⟩
   clear X Z hK h4 ab E
   rcases ae with⟨q2,q3,q4,R⟩|⟨q2,R⟩|⟨q2,q3,R⟩|⟨q2,q3,q4,R⟩
   all_goals
    have ao:=dM R
    clear R
    go_wp2
    go_loop [5,6] (fun x i=> ∃j:Nat,j+1≤k∧i= .int .i64 ((j+1:Nat):Int)∧x= .int .i64 (nS c0 (a_ s) j)) (fun _ i=>k-(intOf i).toNat)
    case atStart=>exact⟨0,by omega,rfl,by rw[nS,aj.out,ao.out];rfl⟩
    case round=>
     obtain⟨j,hj,rfl,rfl⟩:=hrel
     by_cases au:j+1<k
     ·have af:(j:Int)+1<K:=by have:=D.out;omega
      have ha:=HA.out j
      have ai:=FM j (by omega)
      have ag:nS c0 (a_ s) j<140737488355328:=by omega
      obtain⟨ah,_⟩:=ha
      have HN:Hid (nS c0 (a_ s) (j+1)=nS c0 (a_ s) j*64+((s[j+1]'(by omega)).toNat:Int)%64):=dM (by rw[nS,o_ s (j+1) (by omega)])
      obtain⟨x,B⟩:=yaa (nS c0 (a_ s) j)
      rw[←B]at ah ag HN⊢
      have hu:=(s[j+1]'(by omega)).toNat_lt
      clear B ai
      go_wp2
      go_round
      case rel=>exact⟨j+1,by omega,by go_num,by rw[HN.out]⟩
      case measure=>simp[intOf];omega
     ·have af: ¬(j:Int)+1<K:=by have:=D.out;omega
      obtain rfl:k=j+1:=by omega
      have I:=dM (fun W:World=>Lg (nS c0 (a_ s) j) W)
      rw[jr]at G
      have b0:(0:Int)≤K:=by omega
      have b2:K.toNat=j+1:=by have:=D.out;omega
      by_cases F:i_ (nS c0 (a_ s) j)=(a_ s).take (j+1)
      ·have U:Hid (nd (a_ s)=(nS c0 (a_ s) j,j+1)):=dM (by
        have:=EB (l:=a_ s) (k:=j+1) (by omega) (by rw[HL.out];omega) (by rw[G.out];exact F)
        rw[G.out]at this
        exact this)
       have N:((toS (i_ (nS c0 (a_ s) j))).toList==(s.extract 0 (j+1)).toList)=true:=by
        rw[BG,eb,F]
        exact qy (by rw[th ((pM s).take _),pF,iu])
       obtain⟨x,B⟩:=yaa (nS c0 (a_ s) j)
       rw[←B]at N U I⊢
       obtain⟨T,Q⟩:=yaa (toS (i_ x))
       rw[←Q]at N I
       clear F B Q G
       go_wp2_with fail
       go_region_held3(fun W=>Below wr.heap.size wr W) (first|exact(dU _ _).drew|exact ja (by assumption) (O.mono (eV (by assumption)))|go_keep)
        (first|(go_at_call 139;refine(I.out _).mono ?_;rintro e w' ⟨rfl,O⟩))
       have aa:=dM (‹Below wr.heap.size wr _›)
       clear b0 b2 O
       go_wp2_with fail
       go_ret2
       rw[U.out,D.out]
       exact⟨rfl,L.out.trans (aa.out.mono L.out.size)⟩
      ·have ak:Hid (NoneBelow (a_ s) (j+1+1)):=dM (ad.out.step (by rw[G.out];exact F))
       have N:((toS (i_ (nS c0 (a_ s) j))).toList==(s.extract 0 (j+1)).toList)=false:=by
        rw[BG,fz]
        intro e
        have e2:=(Dl (F_ _)).1 e.symm
        rw[pF,iu]at e2
        exact F e2.symm
       obtain⟨x,B⟩:=yaa (nS c0 (a_ s) j)
       rw[←B]at N I⊢
       obtain⟨T,Q⟩:=yaa (toS (i_ x))
       rw[←Q]at N I
       clear F B Q G
       go_wp2_with fail
       go_region_held3(fun W=>Below wr.heap.size wr W) (first|exact(dU _ _).drew|exact ja (by assumption) (O.mono (eV (by assumption)))|go_keep)
        (first|(go_at_call 139;refine(I.out _).mono ?_;rintro e w' ⟨rfl,O⟩))
       have aa:=dM (‹Below wr.heap.size wr _›)
       clear b0 b2 O
       go_wp2_with fail
       go_roundw
       case rel=>exact⟨j+1+1,K+1,by omega,by omega,by have:=D.out;omega,rfl,ak.out,L.out.trans (aa.out.mono L.out.size)⟩
       case measure=>simp[intOf];omega
  ·have U:Hid (nd (a_ s)=(-1,1)):=dM (Cq am.out (fun q h1 h2 h3=>ad.out q h1 (by have:=D.out;have:=HL.out;omega) h3))
   have hd: ¬(K≤4∧K≤(s.size:Int)):=M
   by_cases h4:K≤4
   ·have h5: ¬K≤(s.size:Int):=fun h=>M ⟨h4,h⟩
    clear M hd X Z hK
    go_wp2
    go_ret2
    rw[U.out]
    exact⟨rfl,L.out⟩
   ·clear M hd X Z hK
    go_wp2
    go_ret2
    rw[U.out]
    exact⟨rfl,L.out⟩
theorem ub (s:ByteArray) (w:World) (q:s.size≤9223372036854775807):
  Calls prog 136 #[.string s] w fun e w'=>e= .returned (.tuple #[.int .i64 (nd (a_ s)).1,.int .i64 ((nd (a_ s)).2:Int)])∧Below w.heap.size w w':=by
 rcases iB s.size with h0|h0
 ·have e:s=⟨#[]⟩:=qy (by rw[ea ((j_ s).trans h0)];rfl)
  subst e
  exact NN w
 ·exact sa s w h0 q
theorem Nh (s:ByteArray) (w:World) (X:s.size≤9223372036854775807) (L:(a_ s).getD 0 0≠45):
  Calls prog 134 #[.string s] w fun e w'=>e= .returned (.bool (oh (a_ s)))∧w=w':=by
 have G:=j_ s
 have F:Hid (oh (a_ s)=true↔AllD (a_ s)∧((a_ s).length=1∨1<(a_ s).length∧(a_ s).getD 0 0≠48)):=dM (Hn L)
 have h0: ∀h:0<s.size,(((s[0]'h).toNat:Int)==45)=false:=fun h=>by
  rw[dY,←o_ s 0 h];exact L
 by_cases hz:0<s.size
 ·have ab:=h0 hz
  have R:=dM (o_ s 0 hz)
  have E:=dM G
  clear h0 L G
  go_enter k6,kC
  go_wp2
  go_loop [3] (fun i=> ∃k:Nat,k≤s.size∧i= .int .i64 (k:Int)∧ ∀j,j<k→48≤(a_ s).getD j 0∧(a_ s).getD j 0≤57) (fun i=>s.size-(intOf i).toNat)
  case atStart=>exact⟨0,by omega,rfl,fun j I=>by omega⟩
  case round=>
   obtain⟨k,hk,rfl,Q⟩:=hrel
   have W:=dM Q
   clear Q
   by_cases O:k<s.size
   ·have U:=dM (o_ s k O)
    by_cases D:48≤(a_ s).getD k 0∧(a_ s).getD k 0≤57
    ·obtain⟨N,M⟩:=D
     have HD:=dM (And.intro N M)
     rw[U.out]at N M
     go_wp2
     go_round
     case rel=>exact⟨k+1,by omega,by go_num,fun j I=>by
      rcases eX j k with h|h
      ·exact W.out j h
      ·obtain rfl:j=k:=by omega
       exact HD.out⟩
     case measure=>simp[intOf];omega
    ·have q:Hid (oh (a_ s)=false):=dM (by
      rw[←im,F.out]
      rintro⟨h,_⟩
      exact D (h.at k (by rw[E.out];exact O)))
     rw[U.out]at D
     by_cases N:((s[k]'O).toNat:Int)<48
     ·clear D
      go_wp2
      go_ret
      rw[q.out]
      exact⟨rfl,rfl⟩
     ·have M:57<((s[k]'O).toNat:Int):=by omega
      clear D
      go_wp2
      go_ret
      rw[q.out]
      exact⟨rfl,rfl⟩
   ·obtain rfl:k=s.size:=by omega
    have V:Hid (AllD (a_ s)):=dM (.of_at fun j I=>W.out j (by rw[E.out]at I;exact I))
    by_cases h1:s.size=1
    ·have q:Hid (oh (a_ s)=true):=dM (F.out.2 ⟨V.out,.inl (by rw[E.out,h1])⟩)
     have Z:((s.size:Int)==1)=true:=by rw[gm];omega
     have H1:=dM h1
     clear h1
     go_wp2
     go_ret
     rw[q.out]
     exact⟨rfl,rfl⟩
    ·have Z:((s.size:Int)==1)=false:=by rw[dY];omega
     have aa:(1:Int)<(s.size:Int):=by omega
     by_cases B:(a_ s).getD 0 0=48
     ·have q:Hid (oh (a_ s)=false):=dM (by
       rw[←im,F.out]
       rintro⟨_,h|⟨_,h⟩⟩
       ·rw[E.out]at h;exact h1 h
       ·exact h B)
      have Y:(((s[0]'hz).toNat:Int)!=48)=false:=by rw[←R.out,B];rfl
      clear B h1
      go_wp2
      go_ret
      rw[q.out]
      exact⟨rfl,rfl⟩
     ·have q:Hid (oh (a_ s)=true):=dM (F.out.2 ⟨V.out,.inr ⟨by rw[E.out];omega,B⟩⟩)
      have Y:(((s[0]'hz).toNat:Int)!=48)=true:=by rw[←R.out,kb];exact B
      clear B h1
      go_wp2
      go_ret
      rw[q.out]
      exact⟨rfl,rfl⟩
 ·have e:s=⟨#[]⟩:=qy (by rw[ea (G.trans (by omega))];rfl)
  subst e
  clear G F h0 L X hz
  go_enter k6,kC
  go_wp2
  refine jJ 1 ?_
  rw[kf]
  go_wp2
  go_ret
  exact⟨rfl,rfl⟩
theorem Ho (s:ByteArray) (w:World) (R:s.size≤9223372036854775807):
  Calls prog 134 #[.string s] w fun e w'=>e= .returned (.bool (oh (a_ s)))∧w=w':=by
 by_cases q:(a_ s).getD 0 0=45
 ·have G:=j_ s
  have hz:0<s.size:=by
   rcases iB s.size with h|h
   ·rw[ea (G.trans h)]at q;simp at q
   ·exact h
  have h0:(((s[0]'hz).toNat:Int)==45)=true:=by rw[gm,←o_ s 0 hz];exact q
  have B:a_ (s.extract 1 s.size)=(a_ s).drop 1:=by rw[pF,eo (by omega)]
  have I:((a_ s).drop 1).getD 0 0=(a_ s).getD 1 0:=by simp[dR]
  have M:a_ s=45::(a_ s).drop 1:=by
   cases hl:a_ s with
   |nil=>rw[hl]at q;simp at q
   |cons c r=>rw[hl]at q;rw[eA]at q;rw[q];rfl
  have L:=L2 ((a_ s).drop 1)
  rw[←M,I]at L
  have Q:=dM L
  by_cases h1:1<s.size
  ·have O:=dM (o_ s 1 h1)
   have N:(a_ s).drop 1≠[]:=fun e=>by
    have:=eH List.length e
    rw[eq,G]at this
    simp at this;omega
   have X:=dM N
   by_cases D:(a_ s).getD 1 0=48
   ·have F:Hid (oh (a_ s)=false):=dM (by rw[←im,Q.out];rintro⟨_,h,_⟩;exact h D)
    have V:(((s[1]'h1).toNat:Int)!=48)=false:=by rw[←O.out,D];rfl
    clear L N D I B M q G
    go_enter k6,kC
    go_wp2
    go_ret
    rw[F.out]
    exact⟨rfl,rfl⟩
   ·have V:(((s[1]'h1).toNat:Int)!=48)=true:=by rw[←O.out,kb];exact D
    by_cases E:(a_ s).getD 1 0=45
    ·have F:Hid (oh (a_ s)=false):=dM (by rw[←im,Q.out];rintro⟨_,_,h,_⟩;exact h E)
     have U:(((s[1]'h1).toNat:Int)!=45)=false:=by rw[←O.out,E];rfl
     clear L N D E I B M q G
     go_enter k6,kC
     go_wp2
     go_ret
     rw[F.out]
     exact⟨rfl,rfl⟩
    ·have U:(((s[1]'h1).toNat:Int)!=45)=true:=by rw[←O.out,kb];exact E
     have HC:=dM (Nh (s.extract 1 s.size) w (by rw[←j_,B,eq];omega) (by rw[B,I];exact E))
     rw[B]at HC
     have F:Hid (oh ((a_ s).drop 1)=oh (a_ s)):=dM (by
      rw[iA,Q.out]
      exact⟨fun h=>⟨X.out,D,E,h⟩,fun h=>h.2.2.2⟩)
     rw[F.out]at HC
     clear L N D E I B M q G
     go_enter k6,kC
     go_wp2_with(go_at_call 134;(with_reducible refine HC.out.mono ?_);rintro e w' ⟨rfl,rfl⟩)
     go_ret
     exact⟨rfl,rfl⟩
  ·have W:s.size=1:=by omega
   have F:Hid (oh (a_ s)=false):=dM (by
    rw[←im,Q.out]
    rintro⟨h,_⟩
    exact h (fo (by omega)))
   have Y: ¬(1:Int)<(s.size:Int):=by omega
   clear L I B M q G W
   go_enter k6,kC
   go_wp2
   go_ret
   rw[F.out]
   exact⟨rfl,rfl⟩
 ·exact Nh s w R q
theorem J8 (s t:ByteArray) (w:World):
  Calls prog 135 #[.string s,.string t] w fun e w'=>e= .returned (.bool (qj (a_ s) (a_ t)))∧w=w':=by
 have h1:=j_ s
 have q:=j_ t
 by_cases h:s.size=t.size
 ·have E:((s.size:Int)!=(t.size:Int))=false:=by rw[h];simp
  have D:Hid (qj (a_ s) (a_ t)=Op.bytesLess s.toList t.toList):=dM (by
   unfold qj;rw[dN (by rw[h1,q,h];simp),NB])
  obtain⟨b,B⟩:=yaa (Op.bytesLess s.toList t.toList)
  rw[D.out,←B]
  have F:=dM B
  clear h1 q h B
  go_enter func135,ntmps135
  go_wp2
  go_ret
  rw[F.out]
  exact⟨rfl,rfl⟩
 ·have E:((s.size:Int)!=(t.size:Int))=true:=by rw[kb];omega
  have D:Hid (qj (a_ s) (a_ t)=decide (s.size<t.size)):=dM (by
   unfold qj;rw[dP (by rw[h1,q];exact h),h1,q])
  rw[D.out]
  clear h1 q h
  go_enter func135,ntmps135
  go_wp2
  go_ret
  exact⟨rfl,rfl⟩
theorem MQ (s:ByteArray) (w:World) (hs:s.size≤9223372036854775806):
  Calls prog 102 #[.string s] w fun e w'=>e= .returned (.int .i64 (np (a_ s):Int))∧w=w':=by
 have G:=dM (j_ s)
 have HF:=dM (fun(k:Nat) (hk:k≤s.size) (W:World)=>Ho (s.extract 0 k) W (by rw[←j_,pF,iu,ep,j_];omega))
 have HE:=dM (fun(k:Nat)=>show a_ (s.extract 0 k)=(a_ s).take k by rw[pF,iu])
 go_enter func102,ntmps102
 go_wp2
 go_loop [3,4] (fun b n=> ∃k:Nat,k≤s.size∧n= .int .i64 ((k+1:Nat):Int)∧b= .int .i64 (np ((a_ s).take k):Int)∧AllD (((a_ s).take k).drop 1)) (fun _ n=>s.size+1-(intOf n).toNat)
 case atStart=>exact⟨0,by omega,rfl,rfl,fun x B=>by simp at B⟩
 case round=>
  obtain⟨k,hk,rfl,rfl,U⟩:=hrel
  have Z:=dM U
  clear U
  by_cases I:k<s.size
  ·have O: ∀(q:k=0∨48≤(a_ s).getD k 0∧(a_ s).getD k 0≤57),AllD (((a_ s).take (k+1)).drop 1):=fun q x B=>by
    rw[eS (by rw[G.out];exact I)]at B
    rcases iB k with h0|h0
    ·subst h0;simp at B
    ·rw[gP (by rw[ep,G.out];omega)]at B
     rcases fA.1 B with B|B
     ·exact Z.out x B
     ·have h1:=q.resolve_left (by omega)
      rw[dR,dZ (by rw[G.out];exact I)]at h1
      simp at B
      subst B
      exact h1
   have X:=dM O
   have V:=dM (fun q=>xP (l:=a_ s) (k:=k) (by rw[G.out];exact I) (O q))
   have E:=dM (HF.out (k+1) (by omega))
   rw[HE.out]at E
   have Y:=dM (o_ s k I)
   have ab:(k:Int)+1≤(s.size:Int):=by omega
   clear O
   by_cases h0:k=0
   ·have D:Hid (np ((a_ s).take (k+1))=if oh ((a_ s).take (k+1))=true then k+1 else np ((a_ s).take k)):=dM (V.out (.inl h0))
    have M:=dM (X.out (.inl h0))
    have aa: ¬(1:Int)<(k:Int)+1:=by omega
    clear h0
    obtain⟨f,L⟩:=yaa (oh ((a_ s).take (k+1)))
    rw[←L]at E D
    clear L
    cases f
    ·have F:Hid (np ((a_ s).take (k+1))=np ((a_ s).take k)):=dM (by rw[D.out,dN (by decide)])
     go_wp2_with(go_at_call 134;(with_reducible refine(E.out _).mono ?_);rintro e w' ⟨rfl,rfl⟩)
     go_round
     case rel=>exact⟨k+1,by omega,by go_num,by rw[F.out],M.out⟩
     case measure=>simp[intOf];omega
    ·have F:Hid (np ((a_ s).take (k+1))=k+1):=dM (by rw[D.out,dP rfl])
     go_wp2_with(go_at_call 134;(with_reducible refine(E.out _).mono ?_);rintro e w' ⟨rfl,rfl⟩)
     go_round
     case rel=>exact⟨k+1,by omega,by go_num,by rw[F.out];go_num,M.out⟩
     case measure=>simp[intOf];omega
   ·have aa:(1:Int)<(k:Int)+1:=by omega
    by_cases q:48≤(a_ s).getD k 0∧(a_ s).getD k 0≤57
    ·have D:Hid (np ((a_ s).take (k+1))=if oh ((a_ s).take (k+1))=true then k+1 else np ((a_ s).take k)):=dM (V.out (.inr q))
     have M:=dM (X.out (.inr q))
     obtain⟨R,Q⟩:=q
     rw[Y.out]at R Q
     clear h0
     obtain⟨f,L⟩:=yaa (oh ((a_ s).take (k+1)))
     rw[←L]at E D
     clear L
     cases f
     ·have F:Hid (np ((a_ s).take (k+1))=np ((a_ s).take k)):=dM (by rw[D.out,dN (by decide)])
      go_wp2_with(go_at_call 134;(with_reducible refine(E.out _).mono ?_);rintro e w' ⟨rfl,rfl⟩)
      go_round
      case rel=>exact⟨k+1,by omega,by go_num,by rw[F.out],M.out⟩
      case measure=>simp[intOf];omega
     ·have F:Hid (np ((a_ s).take (k+1))=k+1):=dM (by rw[D.out,dP rfl])
      go_wp2_with(go_at_call 134;(with_reducible refine(E.out _).mono ?_);rintro e w' ⟨rfl,rfl⟩)
      go_round
      case rel=>exact⟨k+1,by omega,by go_num,by rw[F.out];go_num,M.out⟩
      case measure=>simp[intOf];omega
    ·have N:Hid (np ((a_ s).take k)=np (a_ s)):=dM (uI (by rw[G.out];exact I) (by omega) Z.out q).symm
     rw[Y.out]at q
     by_cases R:((s[k]'I).toNat:Int)<48
     ·clear q h0
      go_wp2
      go_ret
      rw[N.out]
      exact⟨rfl,rfl⟩
     ·have Q:57<((s[k]'I).toNat:Int):=by omega
      clear q h0
      go_wp2
      go_ret
      rw[N.out]
      exact⟨rfl,rfl⟩
  ·obtain rfl:k=s.size:=by omega
   have N:Hid (np ((a_ s).take s.size)=np (a_ s)):=dM (by rw[eo (by rw[G.out];exact dQ _)])
   go_wp2
   go_ret
   rw[N.out]
   exact⟨rfl,rfl⟩
end Go.Proofs.YtceddodfddlncaaGreatDoor
