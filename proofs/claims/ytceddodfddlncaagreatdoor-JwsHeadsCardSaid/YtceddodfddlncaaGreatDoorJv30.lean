
import Derived.Test.YtceddodfddlncaaGreatDoorJv12
set_option maxRecDepth 100000
set_option maxHeartbeats 16000000
set_option linter.all false
namespace Go.Proofs.YtceddodfddlncaaGreatDoor
open Go Go.RowKit Tryz
def fq:=@Below.grown
def f9:=@underlying60
def gB:=@results106
def gQ:=@wpList_append_lies
def ix:=@Nat.le_of_eq
def lR:=@World.ownsRow.kept
def lX:=@results41
def mJ:=@ntmps41
def mN:=@func41
theorem NU (s:ByteArray) (hs:s.size≤5000) (ai:Int) (N:Nat→Int→VR) (i:Nat) (left:Int) (hi:i≤s.size) (am:0≤left) (hl:left≤256) (W:World) (Z:f_ (a_ s) i=116):
  Calls prog 72 #[.string s,.int .i64 (i:Int),.int .i64 ai,.int .i64 left] W (sV W (mT (a_ s) N i left)):=by
 have HL:=dM (j_ s)
 have HC:=dM (fun W:World=>tl s i W (by omega) (by omega))
 rw[Z]at HC
 have R:=dM (fun W:World=>Lu s ⟨#[116,114,117,101]⟩ i W (by omega) (by decide) (by omega))
 have Y:=Fx (l:=a_ s) (x:=[116,114,117,101]) (i:=i) (by decide) (by rw[HL.out];exact hi)
 rw[show a_ ⟨#[116,114,117,101]⟩=[116,114,117,101]from rfl]at R
 have L:Hid (mT (a_ s) N i left=if left-1<0 then(zeroJ,i,left-1,53)else pj (a_ s) (left-1) (.mk 1 1 ⟨#[]⟩ [] []) (oA (a_ s) i [116,114,117,101])):=dM (by
  unfold mT;rw[Z];rfl)
 obtain⟨p,hp⟩:=yaa (oA (a_ s) i [116,114,117,101])
 rw[←hp]at R Y L
 obtain⟨p,er⟩:=p
 rw[HL.out]at Y
 simp only at R Y
 have aj:=dM (fun W:World=>Hp s p W (by omega) Y)
 clear Z hp
 by_cases h1:left-1<0
 ·have U:Hid (mT (a_ s) N i left=(zeroJ,i,left-1,53)):=dM (by rw[L.out,dP h1])
  clear L
  go_enter fp,fg
  go_wp2_with(go_at_call 101;(with_reducible refine(HC.out _).mono ?_);rintro e w' ⟨rfl,rfl⟩)
  rw[U.out]
  refine dW (v:= .tuple #[.agg #[.int .i64 0,.int .i64 0,.string ⟨#[]⟩,.slice none 0 0,.slice none 0 0],.int .i64 (i:Int),.int .i64 (left-1),.int .i64 53]) (by simp[results,eR,go_sem]) rfl ⟨_,rfl,RepS.zero _ _,?_⟩
  exact(dU _ _).alloc (dQ _) _
 ·by_cases O:er=0
  ·have U:Hid (mT (a_ s) N i left=((.mk 1 1 ⟨#[]⟩ [] []),d_ (a_ s) p,left-1,0)):=dM (by rw[L.out,dN h1];unfold pj;rw[dN (by simp only;omega)])
   obtain⟨D,ad⟩:=pY O
   clear L O
   go_enter fp,fg
   go_wp2_with(first
    |(go_at_call 101;(with_reducible refine(HC.out _).mono ?_);rintro e w' ⟨rfl,rfl⟩)
    |(refine nn rfl none rfl _ (.tmp 14) _ rfl (W.heap.size+1) 0 [.int .i64 1,.int .i64 1,.string ⟨#[]⟩,.slice none 0 0,.slice none 0 0] rfl rfl _ _ (yN W zeros5 zeros5) (by simp[zeros5]) m8 (by intro v E;simp at E;rcases E with rfl|rfl|rfl|rfl|rfl<;>rfl) ?_;intro wS I G;rw[nr _ _ (by simp[zeros5])]at I;have Q:=Blk.grown (sW W zeros5 zeros5) G (by simp);have V:=dM (fq (qo W zeros5 zeros5) G (eV (qo W zeros5 zeros5)) (by intro k F;injection F with F;omega));clear G;try go_frame)
    |(go_at_call 104;(with_reducible refine(R.out _).mono ?_);rintro e q ⟨rfl,D⟩;have X:=dM (ja V.out (D.mono (eV V.out)));have B:=Blk.below Q D (Blk.lt Q);have M:=Blk.below I D (Blk.lt I);clear D))
   obtain⟨a0,a1,a2,a3,a4⟩:q.cell? ⟨W.heap.size,0,none⟩=some (.int .i64 0)∧q.cell? ⟨W.heap.size,1,none⟩=some (.int .i64 0)∧q.cell? ⟨W.heap.size,2,none⟩=some (.string ⟨#[]⟩)∧q.cell? ⟨W.heap.size,3,none⟩=some (.slice none 0 0)∧q.cell? ⟨W.heap.size,4,none⟩=some (.slice none 0 0):=⟨B.cell 0,B.cell 1,B.cell 2,B.cell 3,B.cell 4⟩
   obtain⟨f0,f1,f2,f3,f4⟩:q.frozen? ⟨W.heap.size,0,none⟩=false∧q.frozen? ⟨W.heap.size,1,none⟩=false∧q.frozen? ⟨W.heap.size,2,none⟩=false∧q.frozen? ⟨W.heap.size,3,none⟩=false∧q.frozen? ⟨W.heap.size,4,none⟩=false:=⟨B.frozen 0,B.frozen 1,B.frozen 2,B.frozen 3,B.frozen 4⟩
   obtain⟨b0,b1,b2,b3,b4⟩:q.cell? ⟨W.heap.size+1,0,none⟩=some (.int .i64 1)∧q.cell? ⟨W.heap.size+1,1,none⟩=some (.int .i64 1)∧q.cell? ⟨W.heap.size+1,2,none⟩=some (.string ⟨#[]⟩)∧q.cell? ⟨W.heap.size+1,3,none⟩=some (.slice none 0 0)∧q.cell? ⟨W.heap.size+1,4,none⟩=some (.slice none 0 0):=⟨M.cell 0,M.cell 1,M.cell 2,M.cell 3,M.cell 4⟩
   go_region_law(go_simp;go_at_call 73;(with_reducible refine(aj.out _).mono ?_);rintro e w' ⟨rfl,rfl⟩)
   all_goals
    go_wp2_with fail
    simp only[fk,fD,eZ,Act.put,fE,gR,gt]
    obtain⟨hA,ag⟩:=pE X.out B (.int .i64 1) (.int .i64 1) (.string ⟨#[]⟩) (.slice none 0 0) (.slice none 0 0)
    obtain⟨hC,ae⟩:=pE (sX X.out) B.drew (.int .i64 1) (.int .i64 1) (.string ⟨#[]⟩) (.slice none 0 0) (.slice none 0 0)
    have ah:=hA.drew
    have af:=sX ag
    refine dW (v:= .tuple #[.agg #[.int .i64 1,.int .i64 1,.string ⟨#[]⟩,.slice none 0 0,.slice none 0 0],.int .i64 (d_ (a_ s) p:Nat),.int .i64 (left-1),.int .i64 0]) (pN eR _ _ W.heap.size _ [.int .i64 1,.int .i64 1,.string ⟨#[]⟩,.slice none 0 0,.slice none 0 0] _ rfl (by first|(with_reducible exact ah)|(with_reducible exact hC)) ed rfl m8) rfl ?_
    rw[U.out]
    exact⟨_,rfl,RepS.plain _ _ 1 1 _ (by decide),(by first|(with_reducible exact af)|(with_reducible exact ae))⟩
  ·have U:Hid (mT (a_ s) N i left=(zeroJ,p,left-1,er)):=dM (by rw[L.out,dN h1];exact dP O)
   obtain⟨D,ad⟩:=o8 O
   clear L O
   go_enter fp,fg
   go_wp2_with(first
    |(go_at_call 101;(with_reducible refine(HC.out _).mono ?_);rintro e w' ⟨rfl,rfl⟩)
    |(refine nn rfl none rfl _ (.tmp 14) _ rfl (W.heap.size+1) 0 [.int .i64 1,.int .i64 1,.string ⟨#[]⟩,.slice none 0 0,.slice none 0 0] rfl rfl _ _ (yN W zeros5 zeros5) (by simp[zeros5]) m8 (by intro v E;simp at E;rcases E with rfl|rfl|rfl|rfl|rfl<;>rfl) ?_;intro wS I G;rw[nr _ _ (by simp[zeros5])]at I;have Q:=Blk.grown (sW W zeros5 zeros5) G (by simp);have V:=dM (fq (qo W zeros5 zeros5) G (eV (qo W zeros5 zeros5)) (by intro k F;injection F with F;omega));clear G;try go_frame)
    |(go_at_call 104;(with_reducible refine(R.out _).mono ?_);rintro e q ⟨rfl,D⟩;have X:=dM (ja V.out (D.mono (eV V.out)));have B:=Blk.below Q D (Blk.lt Q);have M:=Blk.below I D (Blk.lt I);clear D)
    |(refine nn rfl none rfl _ (.tmp 8) _ rfl W.heap.size 0 [.int .i64 0,.int .i64 0,.string ⟨#[]⟩,.slice none 0 0,.slice none 0 0] rfl rfl _ _ B (by simp[zeros5]) m8 (by intro v E;simp at E;rcases E with rfl|rfl|rfl|rfl|rfl<;>rfl) ?_;intro w5 ab aa;rw[nr _ _ (by simp[zeros5])]at ab;have ak:=dM (fq X.out aa (eV X.out) (by intro k F;injection F with F;omega));clear aa;try go_frame))
   refine dW (v:= .tuple #[.agg #[.int .i64 0,.int .i64 0,.string ⟨#[]⟩,.slice none 0 0,.slice none 0 0],.int .i64 (p:Int),.int .i64 (left-1),.int .i64 er]) (pN eR _ _ W.heap.size _ [.int .i64 0,.int .i64 0,.string ⟨#[]⟩,.slice none 0 0,.slice none 0 0] _ rfl ab ed rfl m8) rfl ?_
   rw[U.out]
   exact⟨_,rfl,RepS.zero _ _,ak.out⟩
theorem N6 (s:ByteArray) (hs:s.size≤5000) (ai:Int) (N:Nat→Int→VR) (i:Nat) (left:Int) (hi:i≤s.size) (am:0≤left) (hl:left≤256) (W:World) (Z:f_ (a_ s) i=102):
  Calls prog 72 #[.string s,.int .i64 (i:Int),.int .i64 ai,.int .i64 left] W (sV W (mT (a_ s) N i left)):=by
 have HL:=dM (j_ s)
 have HC:=dM (fun W:World=>tl s i W (by omega) (by omega))
 rw[Z]at HC
 have R:=dM (fun W:World=>Lu s ⟨#[102,97,108,115,101]⟩ i W (by omega) (by decide) (by omega))
 have Y:=Fx (l:=a_ s) (x:=[102,97,108,115,101]) (i:=i) (by decide) (by rw[HL.out];exact hi)
 rw[show a_ ⟨#[102,97,108,115,101]⟩=[102,97,108,115,101]from rfl]at R
 have L:Hid (mT (a_ s) N i left=if left-1<0 then(zeroJ,i,left-1,53)else pj (a_ s) (left-1) (.mk 1 0 ⟨#[]⟩ [] []) (oA (a_ s) i [102,97,108,115,101])):=dM (by
  unfold mT;rw[Z];rfl)
 obtain⟨p,hp⟩:=yaa (oA (a_ s) i [102,97,108,115,101])
 rw[←hp]at R Y L
 obtain⟨p,er⟩:=p
 rw[HL.out]at Y
 simp only at R Y
 have aj:=dM (fun W:World=>Hp s p W (by omega) Y)
 clear Z hp
 by_cases h1:left-1<0
 ·have U:Hid (mT (a_ s) N i left=(zeroJ,i,left-1,53)):=dM (by rw[L.out,dP h1])
  clear L
  go_enter fp,fg
  go_wp2_with(go_at_call 101;(with_reducible refine(HC.out _).mono ?_);rintro e w' ⟨rfl,rfl⟩)
  rw[U.out]
  refine dW (v:= .tuple #[.agg #[.int .i64 0,.int .i64 0,.string ⟨#[]⟩,.slice none 0 0,.slice none 0 0],.int .i64 (i:Int),.int .i64 (left-1),.int .i64 53]) (by simp[results,eR,go_sem]) rfl ⟨_,rfl,RepS.zero _ _,?_⟩
  exact(dU _ _).alloc (dQ _) _
 ·by_cases O:er=0
  ·have U:Hid (mT (a_ s) N i left=((.mk 1 0 ⟨#[]⟩ [] []),d_ (a_ s) p,left-1,0)):=dM (by rw[L.out,dN h1];unfold pj;rw[dN (by simp only;omega)])
   obtain⟨D,ad⟩:=pY O
   clear L O
   go_enter fp,fg
   go_wp2_with(first
    |(go_at_call 101;(with_reducible refine(HC.out _).mono ?_);rintro e w' ⟨rfl,rfl⟩)
    |(refine nn rfl none rfl _ (.tmp 14) _ rfl (W.heap.size+1) 0 [.int .i64 1,.int .i64 0,.string ⟨#[]⟩,.slice none 0 0,.slice none 0 0] rfl rfl _ _ (yN W zeros5 zeros5) (by simp[zeros5]) m8 (by intro v E;simp at E;rcases E with rfl|rfl|rfl|rfl|rfl<;>rfl) ?_;intro wS I G;rw[nr _ _ (by simp[zeros5])]at I;have Q:=Blk.grown (sW W zeros5 zeros5) G (by simp);have V:=dM (fq (qo W zeros5 zeros5) G (eV (qo W zeros5 zeros5)) (by intro k F;injection F with F;omega));clear G;try go_frame)
    |(go_at_call 104;(with_reducible refine(R.out _).mono ?_);rintro e q ⟨rfl,D⟩;have X:=dM (ja V.out (D.mono (eV V.out)));have B:=Blk.below Q D (Blk.lt Q);have M:=Blk.below I D (Blk.lt I);clear D))
   obtain⟨a0,a1,a2,a3,a4⟩:q.cell? ⟨W.heap.size,0,none⟩=some (.int .i64 0)∧q.cell? ⟨W.heap.size,1,none⟩=some (.int .i64 0)∧q.cell? ⟨W.heap.size,2,none⟩=some (.string ⟨#[]⟩)∧q.cell? ⟨W.heap.size,3,none⟩=some (.slice none 0 0)∧q.cell? ⟨W.heap.size,4,none⟩=some (.slice none 0 0):=⟨B.cell 0,B.cell 1,B.cell 2,B.cell 3,B.cell 4⟩
   obtain⟨f0,f1,f2,f3,f4⟩:q.frozen? ⟨W.heap.size,0,none⟩=false∧q.frozen? ⟨W.heap.size,1,none⟩=false∧q.frozen? ⟨W.heap.size,2,none⟩=false∧q.frozen? ⟨W.heap.size,3,none⟩=false∧q.frozen? ⟨W.heap.size,4,none⟩=false:=⟨B.frozen 0,B.frozen 1,B.frozen 2,B.frozen 3,B.frozen 4⟩
   obtain⟨b0,b1,b2,b3,b4⟩:q.cell? ⟨W.heap.size+1,0,none⟩=some (.int .i64 1)∧q.cell? ⟨W.heap.size+1,1,none⟩=some (.int .i64 0)∧q.cell? ⟨W.heap.size+1,2,none⟩=some (.string ⟨#[]⟩)∧q.cell? ⟨W.heap.size+1,3,none⟩=some (.slice none 0 0)∧q.cell? ⟨W.heap.size+1,4,none⟩=some (.slice none 0 0):=⟨M.cell 0,M.cell 1,M.cell 2,M.cell 3,M.cell 4⟩
   go_region_law(go_simp;go_at_call 73;(with_reducible refine(aj.out _).mono ?_);rintro e w' ⟨rfl,rfl⟩)
   all_goals
    go_wp2_with fail
    simp only[fk,fD,eZ,Act.put,fE,gR,gt]
    obtain⟨hA,ag⟩:=pE X.out B (.int .i64 1) (.int .i64 0) (.string ⟨#[]⟩) (.slice none 0 0) (.slice none 0 0)
    obtain⟨hC,ae⟩:=pE (sX X.out) B.drew (.int .i64 1) (.int .i64 0) (.string ⟨#[]⟩) (.slice none 0 0) (.slice none 0 0)
    have ah:=hA.drew
    have af:=sX ag
    refine dW (v:= .tuple #[.agg #[.int .i64 1,.int .i64 0,.string ⟨#[]⟩,.slice none 0 0,.slice none 0 0],.int .i64 (d_ (a_ s) p:Nat),.int .i64 (left-1),.int .i64 0]) (pN eR _ _ W.heap.size _ [.int .i64 1,.int .i64 0,.string ⟨#[]⟩,.slice none 0 0,.slice none 0 0] _ rfl (by first|(with_reducible exact ah)|(with_reducible exact hC)) ed rfl m8) rfl ?_
    rw[U.out]
    exact⟨_,rfl,RepS.plain _ _ 1 0 _ (by decide),(by first|(with_reducible exact af)|(with_reducible exact ae))⟩
  ·have U:Hid (mT (a_ s) N i left=(zeroJ,p,left-1,er)):=dM (by rw[L.out,dN h1];exact dP O)
   obtain⟨D,ad⟩:=o8 O
   clear L O
   go_enter fp,fg
   go_wp2_with(first
    |(go_at_call 101;(with_reducible refine(HC.out _).mono ?_);rintro e w' ⟨rfl,rfl⟩)
    |(refine nn rfl none rfl _ (.tmp 14) _ rfl (W.heap.size+1) 0 [.int .i64 1,.int .i64 0,.string ⟨#[]⟩,.slice none 0 0,.slice none 0 0] rfl rfl _ _ (yN W zeros5 zeros5) (by simp[zeros5]) m8 (by intro v E;simp at E;rcases E with rfl|rfl|rfl|rfl|rfl<;>rfl) ?_;intro wS I G;rw[nr _ _ (by simp[zeros5])]at I;have Q:=Blk.grown (sW W zeros5 zeros5) G (by simp);have V:=dM (fq (qo W zeros5 zeros5) G (eV (qo W zeros5 zeros5)) (by intro k F;injection F with F;omega));clear G;try go_frame)
    |(go_at_call 104;(with_reducible refine(R.out _).mono ?_);rintro e q ⟨rfl,D⟩;have X:=dM (ja V.out (D.mono (eV V.out)));have B:=Blk.below Q D (Blk.lt Q);have M:=Blk.below I D (Blk.lt I);clear D)
    |(refine nn rfl none rfl _ (.tmp 8) _ rfl W.heap.size 0 [.int .i64 0,.int .i64 0,.string ⟨#[]⟩,.slice none 0 0,.slice none 0 0] rfl rfl _ _ B (by simp[zeros5]) m8 (by intro v E;simp at E;rcases E with rfl|rfl|rfl|rfl|rfl<;>rfl) ?_;intro w5 ab aa;rw[nr _ _ (by simp[zeros5])]at ab;have ak:=dM (fq X.out aa (eV X.out) (by intro k F;injection F with F;omega));clear aa;try go_frame))
   refine dW (v:= .tuple #[.agg #[.int .i64 0,.int .i64 0,.string ⟨#[]⟩,.slice none 0 0,.slice none 0 0],.int .i64 (p:Int),.int .i64 (left-1),.int .i64 er]) (pN eR _ _ W.heap.size _ [.int .i64 0,.int .i64 0,.string ⟨#[]⟩,.slice none 0 0,.slice none 0 0] _ rfl ab ed rfl m8) rfl ?_
   rw[U.out]
   exact⟨_,rfl,RepS.zero _ _,ak.out⟩
theorem NT (s:ByteArray) (hs:s.size≤5000) (aj:Int) (O:Nat→Int→VR) (i:Nat) (left:Int) (hi:i≤s.size) (ap:0≤left) (hl:left≤256) (W:World) (Y:f_ (a_ s) i=34):
  Calls prog 72 #[.string s,.int .i64 (i:Int),.int .i64 aj,.int .i64 left] W (sV W (mT (a_ s) O i left)):=by
 have HL:=dM (j_ s)
 have HC:=dM (fun W:World=>tl s i W (by omega) (by omega))
 rw[Y]at HC
 have Q:=dM (fun W:World=>Ni s i W (by omega) (by omega))
 have M:=FC (a_ s) i
 have X:=J7 (a_ s) i
 have E:Hid (mT (a_ s) O i left=if left-1<0 then(zeroJ,i,left-1,53)else pj (a_ s) (left-1) (.mk 3 0 (toS (nE (a_ s) i).1) [] []) (nE (a_ s) i).2):=dM (by
  unfold mT;rw[Y];rfl)
 obtain⟨r,hr⟩:=yaa (nE (a_ s) i)
 rw[←hr]at Q M E X
 obtain⟨t,p,er⟩:=r
 rw[HL.out]at M X
 simp only at Q M X
 obtain⟨T,hT⟩:=yaa (toS t)
 have ak:Hid (T.size≤9223372036854775807):=dM (by rw[hT,qc];omega)
 simp only at E
 rw[←hT]at Q E
 clear Y hr hT X
 by_cases h1:left-1<0
 ·have R:Hid (mT (a_ s) O i left=(zeroJ,i,left-1,53)):=dM (by rw[E.out,dP h1])
  clear E
  go_enter fp,fg
  go_wp2_with(go_at_call 101;(with_reducible refine(HC.out _).mono ?_);rintro e w' ⟨rfl,rfl⟩)
  rw[R.out]
  refine dW (v:= .tuple #[.agg #[.int .i64 0,.int .i64 0,.string ⟨#[]⟩,.slice none 0 0,.slice none 0 0],.int .i64 (i:Int),.int .i64 (left-1),.int .i64 53]) (by simp[results,eR,go_sem]) rfl ⟨_,rfl,RepS.zero _ _,?_⟩
  exact(dU _ _).alloc (dQ _) _
 ·by_cases N:er=0
  ·have R:Hid (mT (a_ s) O i left=(.mk 3 0 T [] [],d_ (a_ s) p,left-1,0)):=dM (by rw[E.out,dN h1];unfold pj;rw[dN (by simp only;omega)])
   have am:=dM (fun W:World=>Hp s p W (by omega) (M N))
   obtain⟨D,ae⟩:=pY N
   clear E N M
   go_enter fp,fg
   go_wp2_with(first
    |(go_at_call 101;(with_reducible refine(HC.out _).mono ?_);rintro e w' ⟨rfl,rfl⟩)
    |(go_at_call 105;(with_reducible refine(Q.out _).mono ?_);rintro e w1 ⟨rfl,D⟩;have V:=dM (ja (qo W zeros5 zeros5) (D.mono (eV (qo W zeros5 zeros5))));have Z:=Blk.below (sW W zeros5 zeros5) D (Blk.lt (sW W zeros5 zeros5));have aa:=Blk.below (yN W zeros5 zeros5) D (Blk.lt (yN W zeros5 zeros5));clear D)
    |(refine nn rfl none rfl _ (.tmp 14) _ rfl (W.heap.size+1) 0 [.int .i64 3,.int .i64 0,.string T,.slice none 0 0,.slice none 0 0] rfl rfl _ _ aa (by simp[zeros5]) m8 (by intro v F;simp at F;rcases F with rfl|rfl|rfl|rfl|rfl<;>rfl) ?_;intro q I L;rw[nr _ _ (by simp[zeros5])]at I;have B:=Blk.grown Z L (by simp);have U:=dM (fq V.out L (eV V.out) (by intro k G;injection G with G;omega));clear L;try go_frame))
   obtain⟨a0,a1,a2,a3,a4⟩:q.cell? ⟨W.heap.size,0,none⟩=some (.int .i64 0)∧q.cell? ⟨W.heap.size,1,none⟩=some (.int .i64 0)∧q.cell? ⟨W.heap.size,2,none⟩=some (.string ⟨#[]⟩)∧q.cell? ⟨W.heap.size,3,none⟩=some (.slice none 0 0)∧q.cell? ⟨W.heap.size,4,none⟩=some (.slice none 0 0):=⟨B.cell 0,B.cell 1,B.cell 2,B.cell 3,B.cell 4⟩
   obtain⟨f0,f1,f2,f3,f4⟩:q.frozen? ⟨W.heap.size,0,none⟩=false∧q.frozen? ⟨W.heap.size,1,none⟩=false∧q.frozen? ⟨W.heap.size,2,none⟩=false∧q.frozen? ⟨W.heap.size,3,none⟩=false∧q.frozen? ⟨W.heap.size,4,none⟩=false:=⟨B.frozen 0,B.frozen 1,B.frozen 2,B.frozen 3,B.frozen 4⟩
   obtain⟨b0,b1,b2,b3,b4⟩:q.cell? ⟨W.heap.size+1,0,none⟩=some (.int .i64 3)∧q.cell? ⟨W.heap.size+1,1,none⟩=some (.int .i64 0)∧q.cell? ⟨W.heap.size+1,2,none⟩=some (.string T)∧q.cell? ⟨W.heap.size+1,3,none⟩=some (.slice none 0 0)∧q.cell? ⟨W.heap.size+1,4,none⟩=some (.slice none 0 0):=⟨I.cell 0,I.cell 1,I.cell 2,I.cell 3,I.cell 4⟩
   go_region_law(go_simp;go_at_call 73;(with_reducible refine(am.out _).mono ?_);rintro e w' ⟨rfl,rfl⟩)
   all_goals
    go_wp2_with fail
    simp only[fk,fD,eZ,Act.put,fE,gR,gt]
    obtain⟨hA,ah⟩:=pE U.out B (.int .i64 3) (.int .i64 0) (.string T) (.slice none 0 0) (.slice none 0 0)
    obtain⟨hC,af⟩:=pE (sX U.out) B.drew (.int .i64 3) (.int .i64 0) (.string T) (.slice none 0 0) (.slice none 0 0)
    have ai:=hA.drew
    have ag:=sX ah
    refine dW (v:= .tuple #[.agg #[.int .i64 3,.int .i64 0,.string T,.slice none 0 0,.slice none 0 0],.int .i64 (d_ (a_ s) p:Nat),.int .i64 (left-1),.int .i64 0]) (pN eR _ _ W.heap.size _ [.int .i64 3,.int .i64 0,.string T,.slice none 0 0,.slice none 0 0] _ rfl (by first|(with_reducible exact ai)|(with_reducible exact hC)) ed rfl m8) rfl ?_
    rw[R.out]
    exact⟨_,rfl,RepS.plain _ _ 3 0 _ ak.out,(by first|(with_reducible exact ag)|(with_reducible exact af))⟩
  ·have R:Hid (mT (a_ s) O i left=(zeroJ,p,left-1,er)):=dM (by rw[E.out,dN h1];exact dP N)
   obtain⟨D,ae⟩:=o8 N
   clear E N M
   go_enter fp,fg
   go_wp2_with(first
    |(go_at_call 101;(with_reducible refine(HC.out _).mono ?_);rintro e w' ⟨rfl,rfl⟩)
    |(go_at_call 105;(with_reducible refine(Q.out _).mono ?_);rintro e w1 ⟨rfl,D⟩;have V:=dM (ja (qo W zeros5 zeros5) (D.mono (eV (qo W zeros5 zeros5))));have Z:=Blk.below (sW W zeros5 zeros5) D (Blk.lt (sW W zeros5 zeros5));have aa:=Blk.below (yN W zeros5 zeros5) D (Blk.lt (yN W zeros5 zeros5));clear D)
    |(refine nn rfl none rfl _ (.tmp 14) _ rfl (W.heap.size+1) 0 [.int .i64 3,.int .i64 0,.string T,.slice none 0 0,.slice none 0 0] rfl rfl _ _ aa (by simp[zeros5]) m8 (by intro v F;simp at F;rcases F with rfl|rfl|rfl|rfl|rfl<;>rfl) ?_;intro q I L;rw[nr _ _ (by simp[zeros5])]at I;have B:=Blk.grown Z L (by simp);have U:=dM (fq V.out L (eV V.out) (by intro k G;injection G with G;omega));clear L;try go_frame)
    |(refine nn rfl none rfl _ (.tmp 8) _ rfl W.heap.size 0 [.int .i64 0,.int .i64 0,.string ⟨#[]⟩,.slice none 0 0,.slice none 0 0] rfl rfl _ _ B (by simp[zeros5]) m8 (by intro v F;simp at F;rcases F with rfl|rfl|rfl|rfl|rfl<;>rfl) ?_;intro w5 ad ab;rw[nr _ _ (by simp[zeros5])]at ad;have ao:=dM (fq U.out ab (eV U.out) (by intro k G;injection G with G;omega));clear ab;try go_frame))
   refine dW (v:= .tuple #[.agg #[.int .i64 0,.int .i64 0,.string ⟨#[]⟩,.slice none 0 0,.slice none 0 0],.int .i64 (p:Int),.int .i64 (left-1),.int .i64 er]) (pN eR _ _ W.heap.size _ [.int .i64 0,.int .i64 0,.string ⟨#[]⟩,.slice none 0 0,.slice none 0 0] _ rfl ad ed rfl m8) rfl ?_
   rw[R.out]
   exact⟨_,rfl,RepS.zero _ _,ao.out⟩
theorem M8 (s:ByteArray) (hs:s.size≤5000) (au:Int) (L:Nat→Int→VR) (i:Nat) (left:Int) (hi:i≤s.size) (ay:0≤left) (hl:left≤256) (W:World) (hc:f_ (a_ s) i=45∨(48≤f_ (a_ s) i∧f_ (a_ s) i≤57)):
  Calls prog 72 #[.string s,.int .i64 (i:Int),.int .i64 au,.int .i64 left] W (sV W (mT (a_ s) L i left)):=by
 have Z:=dM (j_ s)
 have HC:=dM (fun W:World=>tl s i W (by omega) (by omega))
 have ax:i<s.size:=by rw[←Z.out];exact oq (by omega)
 have aa:a_ (s.extract i s.size)=(a_ s).drop i:=by rw[pF,eo (by rw[Z.out];exact dQ _)]
 have ah:=Fw ((a_ s).drop i)
 rw[eq,Z.out]at ah
 have O:=dM (fun W:World=>MQ (s.extract i s.size) W (by rw[←j_,aa,eq,Z.out];omega))
 rw[aa]at O
 have aj:pA (f_ (a_ s) i)=true:=by unfold pA;rw[eb];omega
 have E:Hid (mT (a_ s) L i left=if left-1<0 then(zeroJ,i,left-1,53)else if np ((a_ s).drop i)=0 then(zeroJ,i+1,left-1,50)
   else if oj (((a_ s).drop i).take (np ((a_ s).drop i))) (-9007199254740991) 9007199254740991=true then(.mk 2 (oP (((a_ s).drop i).take (np ((a_ s).drop i)))) ⟨#[]⟩ [] [],d_ (a_ s) (i+np ((a_ s).drop i)),left-1,0)
   else(zeroJ,i,left-1,41)):=dM (by
  unfold mT
  rw[dN (by rw[aj];simp),dP hc])
 obtain⟨n,Y⟩:=yaa (np ((a_ s).drop i))
 rw[←Y]at O E ah
 have ak:=dM (fun W:World=>Ef s ((i:Int)+(n:Int)) (i+n) W (by omega) (by omega) (by omega))
 have am:=dM (tM s i n (by omega))
 have ap:(s.extract i (i+n)).size≤5000:=by rw[am.out,qc,ep];omega
 have ag:a_ (s.extract i (i+n))=((a_ s).drop i).take n:=by rw[am.out];exact th (((pM s).drop i).take n)
 have M:=dM (fun W:World=>rX (s.extract i (i+n)) (-9007199254740991) 9007199254740991 W (by omega) (by decide) (by decide))
 rw[ag]at M
 have V:Hid (n≠0→oh (((a_ s).drop i).take n)=true):=dM (fun h=>by rw[Y];exact Nm (by rw[←Y];exact h))
 obtain⟨D,hD⟩:=yaa (((a_ s).drop i).take n)
 rw[←hD]at M E V
 obtain⟨N,hN⟩:=yaa (oP D)
 rw[←hN]at E
 have ao:=dM hN
 clear Y hD ap ag aj aa hN
 obtain⟨c,ai⟩:=yaa (f_ (a_ s) i)
 rw[←ai]at HC hc
 clear ai
 have az:(i:Int)+(n:Int)≤(s.size:Int):=by omega
 rcases hc with rfl|⟨aB,aA⟩
 ·by_cases h1:left-1<0
  ·have G:Hid (mT (a_ s) L i left=(zeroJ,i,left-1,53)):=dM (by rw[E.out,dP h1])
   clear E
   go_enter fp,fg
   go_wp2_with(go_at_call 101;(with_reducible refine(HC.out _).mono ?_);rintro e w' ⟨rfl,rfl⟩)
   rw[G.out]
   refine dW (v:= .tuple #[.agg #[.int .i64 0,.int .i64 0,.string ⟨#[]⟩,.slice none 0 0,.slice none 0 0],.int .i64 (i:Int),.int .i64 (left-1),.int .i64 53]) (by simp[results,eR,go_sem]) rfl ⟨_,rfl,RepS.zero _ _,?_⟩
   exact(dU _ _).alloc (dQ _) _
  ·by_cases F:n=0
   ·subst F
    have G:Hid (mT (a_ s) L i left=(zeroJ,i+1,left-1,50)):=dM (by rw[E.out,dN h1,dP rfl])
    clear E
    go_enter fp,fg
    go_wp2_with(first
     |(go_at_call 101;(with_reducible refine(HC.out _).mono ?_);rintro e w' ⟨rfl,rfl⟩)
     |(go_at_call 102;(with_reducible refine(O.out _).mono ?_);rintro e w' ⟨rfl,rfl⟩))
    rw[G.out]
    refine dW (v:= .tuple #[.agg #[.int .i64 0,.int .i64 0,.string ⟨#[]⟩,.slice none 0 0,.slice none 0 0],.int .i64 ((i:Int)+1),.int .i64 (left-1),.int .i64 50]) (by simp[results,eR,go_sem]) rfl ⟨_,?_,RepS.zero _ _,?_⟩
    ·congr 3
    ·exact((dU _ _).alloc (dQ _) _).alloc (by simp) _
   ·have aq:=(o8 (show(n:Int)≠0 by omega)).1
    cases hf:oj D (-9007199254740991) 9007199254740991 with
    |false=>
     have G:Hid (mT (a_ s) L i left=(zeroJ,i,left-1,41)):=dM (by rw[E.out,dN h1,dN F,hf,dN (by decide)])
     rw[show DX D (-9007199254740991) 9007199254740991= .tuple #[.int .i64 0,.int .i64 41,.int .i64 (-1)]by unfold DX;rw[dP (V.out F),hf,dN (by decide)]]at M
     clear E F hf
     go_enter fp,fg
     go_wp2_with(first
      |(go_at_call 101;(with_reducible refine(HC.out _).mono ?_);rintro e w' ⟨rfl,rfl⟩)
      |(go_at_call 102;(with_reducible refine(O.out _).mono ?_);rintro e w' ⟨rfl,rfl⟩)
      |(go_at_call 103;(with_reducible refine(M.out _).mono ?_);rintro e w' ⟨rfl,rfl⟩))
     rw[G.out]
     refine dW (v:= .tuple #[.agg #[.int .i64 0,.int .i64 0,.string ⟨#[]⟩,.slice none 0 0,.slice none 0 0],.int .i64 (i:Int),.int .i64 (left-1),.int .i64 41]) (by simp[results,eR,go_sem]) rfl ⟨_,rfl,RepS.zero _ _,?_⟩
     exact((dU _ _).alloc (dQ _) _).alloc (by simp) _
    |true=>
     have G:Hid (mT (a_ s) L i left=(.mk 2 N ⟨#[]⟩ [] [],d_ (a_ s) (i+n),left-1,0)):=dM (by rw[E.out,dN h1,dN F,hf,dP rfl])
     rw[show DX D (-9007199254740991) 9007199254740991= .tuple #[.int .i64 N,.int .i64 0,.int .i64 (-1)]by unfold DX;rw[dP (V.out F),hf,dP rfl,←ao.out]]at M
     clear E F hf
     go_enter fp,fg
     go_wp2_with(first
      |(go_at_call 101;(with_reducible refine(HC.out _).mono ?_);rintro e w' ⟨rfl,rfl⟩)
      |(go_at_call 102;(with_reducible refine(O.out _).mono ?_);rintro e w' ⟨rfl,rfl⟩)
      |(go_at_call 103;(with_reducible refine(M.out _).mono ?_);rintro e w' ⟨rfl,rfl⟩)
      |(refine nn rfl none rfl _ (.tmp 14) _ rfl (W.heap.size+1) 0 [.int .i64 2,.int .i64 N,.string ⟨#[]⟩,.slice none 0 0,.slice none 0 0] rfl rfl _ _ (yN W zeros5 zeros5) (by simp[zeros5]) m8 (by intro v R;simp at R;rcases R with rfl|rfl|rfl|rfl|rfl<;>rfl) ?_;intro q I Q;rw[nr _ _ (by simp[zeros5])]at I;have B:=Blk.grown (sW W zeros5 zeros5) Q (by simp);have X:=dM (fq (qo W zeros5 zeros5) Q (eV (qo W zeros5 zeros5)) (by intro k U;injection U with U;omega));clear Q;try go_frame))
     obtain⟨a0,a1,a2,a3,a4⟩:q.cell? ⟨W.heap.size,0,none⟩=some (.int .i64 0)∧q.cell? ⟨W.heap.size,1,none⟩=some (.int .i64 0)∧q.cell? ⟨W.heap.size,2,none⟩=some (.string ⟨#[]⟩)∧q.cell? ⟨W.heap.size,3,none⟩=some (.slice none 0 0)∧q.cell? ⟨W.heap.size,4,none⟩=some (.slice none 0 0):=⟨B.cell 0,B.cell 1,B.cell 2,B.cell 3,B.cell 4⟩
     obtain⟨f0,f1,f2,f3,f4⟩:q.frozen? ⟨W.heap.size,0,none⟩=false∧q.frozen? ⟨W.heap.size,1,none⟩=false∧q.frozen? ⟨W.heap.size,2,none⟩=false∧q.frozen? ⟨W.heap.size,3,none⟩=false∧q.frozen? ⟨W.heap.size,4,none⟩=false:=⟨B.frozen 0,B.frozen 1,B.frozen 2,B.frozen 3,B.frozen 4⟩
     obtain⟨b0,b1,b2,b3,b4⟩:q.cell? ⟨W.heap.size+1,0,none⟩=some (.int .i64 2)∧q.cell? ⟨W.heap.size+1,1,none⟩=some (.int .i64 N)∧q.cell? ⟨W.heap.size+1,2,none⟩=some (.string ⟨#[]⟩)∧q.cell? ⟨W.heap.size+1,3,none⟩=some (.slice none 0 0)∧q.cell? ⟨W.heap.size+1,4,none⟩=some (.slice none 0 0):=⟨I.cell 0,I.cell 1,I.cell 2,I.cell 3,I.cell 4⟩
     go_region_law(go_simp;go_at_call 73;(with_reducible refine(ak.out _).mono ?_);rintro e w' ⟨rfl,rfl⟩)
     all_goals
      go_wp2_with fail
      simp only[fk,fD,eZ,Act.put,fE,gR,gt]
      obtain⟨hA,ae⟩:=pE X.out B (.int .i64 2) (.int .i64 N) (.string ⟨#[]⟩) (.slice none 0 0) (.slice none 0 0)
      obtain⟨hC,ab⟩:=pE (sX X.out) B.drew (.int .i64 2) (.int .i64 N) (.string ⟨#[]⟩) (.slice none 0 0) (.slice none 0 0)
      have af:=hA.drew
      have ad:=sX ae
      refine dW (v:= .tuple #[.agg #[.int .i64 2,.int .i64 N,.string ⟨#[]⟩,.slice none 0 0,.slice none 0 0],.int .i64 (d_ (a_ s) (i+n):Nat),.int .i64 (left-1),.int .i64 0]) (pN eR _ _ W.heap.size _ [.int .i64 2,.int .i64 N,.string ⟨#[]⟩,.slice none 0 0,.slice none 0 0] _ rfl (by first|(with_reducible exact af)|(with_reducible exact hC)) ed rfl m8) rfl ?_
      rw[G.out]
      exact⟨_,rfl,RepS.plain _ _ 2 N _ (by decide),(by first|(with_reducible exact ad)|(with_reducible exact ab))⟩
 ·have ar:=o8 (show c≠45 by omega)
  obtain⟨av,aw⟩:=ar
  by_cases h1:left-1<0
  ·have G:Hid (mT (a_ s) L i left=(zeroJ,i,left-1,53)):=dM (by rw[E.out,dP h1])
   clear E
   go_enter fp,fg
   go_wp2_with(go_at_call 101;(with_reducible refine(HC.out _).mono ?_);rintro e w' ⟨rfl,rfl⟩)
   rw[G.out]
   refine dW (v:= .tuple #[.agg #[.int .i64 0,.int .i64 0,.string ⟨#[]⟩,.slice none 0 0,.slice none 0 0],.int .i64 (i:Int),.int .i64 (left-1),.int .i64 53]) (by simp[results,eR,go_sem]) rfl ⟨_,rfl,RepS.zero _ _,?_⟩
   exact(dU _ _).alloc (dQ _) _
  ·by_cases F:n=0
   ·subst F
    have G:Hid (mT (a_ s) L i left=(zeroJ,i+1,left-1,50)):=dM (by rw[E.out,dN h1,dP rfl])
    clear E
    go_enter fp,fg
    go_wp2_with(first
     |(go_at_call 101;(with_reducible refine(HC.out _).mono ?_);rintro e w' ⟨rfl,rfl⟩)
     |(go_at_call 102;(with_reducible refine(O.out _).mono ?_);rintro e w' ⟨rfl,rfl⟩))
    rw[G.out]
    refine dW (v:= .tuple #[.agg #[.int .i64 0,.int .i64 0,.string ⟨#[]⟩,.slice none 0 0,.slice none 0 0],.int .i64 ((i:Int)+1),.int .i64 (left-1),.int .i64 50]) (by simp[results,eR,go_sem]) rfl ⟨_,?_,RepS.zero _ _,?_⟩
    ·congr 3
    ·exact((dU _ _).alloc (dQ _) _).alloc (by simp) _
   ·have aq:=(o8 (show(n:Int)≠0 by omega)).1
    cases hf:oj D (-9007199254740991) 9007199254740991 with
    |false=>
     have G:Hid (mT (a_ s) L i left=(zeroJ,i,left-1,41)):=dM (by rw[E.out,dN h1,dN F,hf,dN (by decide)])
     rw[show DX D (-9007199254740991) 9007199254740991= .tuple #[.int .i64 0,.int .i64 41,.int .i64 (-1)]by unfold DX;rw[dP (V.out F),hf,dN (by decide)]]at M
     clear E F hf
     go_enter fp,fg
     go_wp2_with(first
      |(go_at_call 101;(with_reducible refine(HC.out _).mono ?_);rintro e w' ⟨rfl,rfl⟩)
      |(go_at_call 102;(with_reducible refine(O.out _).mono ?_);rintro e w' ⟨rfl,rfl⟩)
      |(go_at_call 103;(with_reducible refine(M.out _).mono ?_);rintro e w' ⟨rfl,rfl⟩))
     rw[G.out]
     refine dW (v:= .tuple #[.agg #[.int .i64 0,.int .i64 0,.string ⟨#[]⟩,.slice none 0 0,.slice none 0 0],.int .i64 (i:Int),.int .i64 (left-1),.int .i64 41]) (by simp[results,eR,go_sem]) rfl ⟨_,rfl,RepS.zero _ _,?_⟩
     exact((dU _ _).alloc (dQ _) _).alloc (by simp) _
    |true=>
     have G:Hid (mT (a_ s) L i left=(.mk 2 N ⟨#[]⟩ [] [],d_ (a_ s) (i+n),left-1,0)):=dM (by rw[E.out,dN h1,dN F,hf,dP rfl])
     rw[show DX D (-9007199254740991) 9007199254740991= .tuple #[.int .i64 N,.int .i64 0,.int .i64 (-1)]by unfold DX;rw[dP (V.out F),hf,dP rfl,←ao.out]]at M
     clear E F hf
     go_enter fp,fg
     go_wp2_with(first
      |(go_at_call 101;(with_reducible refine(HC.out _).mono ?_);rintro e w' ⟨rfl,rfl⟩)
      |(go_at_call 102;(with_reducible refine(O.out _).mono ?_);rintro e w' ⟨rfl,rfl⟩)
      |(go_at_call 103;(with_reducible refine(M.out _).mono ?_);rintro e w' ⟨rfl,rfl⟩)
      |(refine nn rfl none rfl _ (.tmp 14) _ rfl (W.heap.size+1) 0 [.int .i64 2,.int .i64 N,.string ⟨#[]⟩,.slice none 0 0,.slice none 0 0] rfl rfl _ _ (yN W zeros5 zeros5) (by simp[zeros5]) m8 (by intro v R;simp at R;rcases R with rfl|rfl|rfl|rfl|rfl<;>rfl) ?_;intro q I Q;rw[nr _ _ (by simp[zeros5])]at I;have B:=Blk.grown (sW W zeros5 zeros5) Q (by simp);have X:=dM (fq (qo W zeros5 zeros5) Q (eV (qo W zeros5 zeros5)) (by intro k U;injection U with U;omega));clear Q;try go_frame))
     obtain⟨a0,a1,a2,a3,a4⟩:q.cell? ⟨W.heap.size,0,none⟩=some (.int .i64 0)∧q.cell? ⟨W.heap.size,1,none⟩=some (.int .i64 0)∧q.cell? ⟨W.heap.size,2,none⟩=some (.string ⟨#[]⟩)∧q.cell? ⟨W.heap.size,3,none⟩=some (.slice none 0 0)∧q.cell? ⟨W.heap.size,4,none⟩=some (.slice none 0 0):=⟨B.cell 0,B.cell 1,B.cell 2,B.cell 3,B.cell 4⟩
     obtain⟨f0,f1,f2,f3,f4⟩:q.frozen? ⟨W.heap.size,0,none⟩=false∧q.frozen? ⟨W.heap.size,1,none⟩=false∧q.frozen? ⟨W.heap.size,2,none⟩=false∧q.frozen? ⟨W.heap.size,3,none⟩=false∧q.frozen? ⟨W.heap.size,4,none⟩=false:=⟨B.frozen 0,B.frozen 1,B.frozen 2,B.frozen 3,B.frozen 4⟩
     obtain⟨b0,b1,b2,b3,b4⟩:q.cell? ⟨W.heap.size+1,0,none⟩=some (.int .i64 2)∧q.cell? ⟨W.heap.size+1,1,none⟩=some (.int .i64 N)∧q.cell? ⟨W.heap.size+1,2,none⟩=some (.string ⟨#[]⟩)∧q.cell? ⟨W.heap.size+1,3,none⟩=some (.slice none 0 0)∧q.cell? ⟨W.heap.size+1,4,none⟩=some (.slice none 0 0):=⟨I.cell 0,I.cell 1,I.cell 2,I.cell 3,I.cell 4⟩
     go_region_law(go_simp;go_at_call 73;(with_reducible refine(ak.out _).mono ?_);rintro e w' ⟨rfl,rfl⟩)
     all_goals
      go_wp2_with fail
      simp only[fk,fD,eZ,Act.put,fE,gR,gt]
      obtain⟨hA,ae⟩:=pE X.out B (.int .i64 2) (.int .i64 N) (.string ⟨#[]⟩) (.slice none 0 0) (.slice none 0 0)
      obtain⟨hC,ab⟩:=pE (sX X.out) B.drew (.int .i64 2) (.int .i64 N) (.string ⟨#[]⟩) (.slice none 0 0) (.slice none 0 0)
      have af:=hA.drew
      have ad:=sX ae
      refine dW (v:= .tuple #[.agg #[.int .i64 2,.int .i64 N,.string ⟨#[]⟩,.slice none 0 0,.slice none 0 0],.int .i64 (d_ (a_ s) (i+n):Nat),.int .i64 (left-1),.int .i64 0]) (pN eR _ _ W.heap.size _ [.int .i64 2,.int .i64 N,.string ⟨#[]⟩,.slice none 0 0,.slice none 0 0] _ rfl (by first|(with_reducible exact af)|(with_reducible exact hC)) ed rfl m8) rfl ?_
      rw[G.out]
      exact⟨_,rfl,RepS.plain _ _ 2 N _ (by decide),(by first|(with_reducible exact ad)|(with_reducible exact ab))⟩
theorem NR (s:ByteArray) (hs:s.size≤5000) (F:Int) (B:Nat→Int→VR) (i:Nat) (left:Int) (hi:i≤s.size) (aa:0≤left) (hl:left≤256) (W:World) (q: ¬pA (f_ (a_ s) i)=true):
  Calls prog 72 #[.string s,.int .i64 (i:Int),.int .i64 F,.int .i64 left] W (sV W (mT (a_ s) B i left)):=by
 have HC:=dM (fun W:World=>tl s i W (by omega) (by omega))
 have E:Hid (mT (a_ s) B i left=(zeroJ,i,left,50)):=dM (by unfold mT;rw[dP q])
 obtain⟨c,D⟩:=yaa (f_ (a_ s) i)
 rw[←D]at HC q
 unfold pA at q
 rw[eb]at q
 clear D
 obtain⟨Q,m0⟩:=o8 (show c≠45 by omega)
 obtain⟨O,Z⟩:=o8 (show c≠110 by omega)
 obtain⟨N,Y⟩:=o8 (show c≠116 by omega)
 obtain⟨M,X⟩:=o8 (show c≠102 by omega)
 obtain⟨L,V⟩:=o8 (show c≠34 by omega)
 obtain⟨I,U⟩:=o8 (show c≠91 by omega)
 obtain⟨G,R⟩:=o8 (show c≠123 by omega)
 by_cases ad:48≤c
 ·have ab:decide (c≤57)=false:=by rw[fz];omega
  clear q
  go_enter fp,fg
  go_wp2_with(go_at_call 101;(with_reducible refine(HC.out _).mono ?_);rintro e w' ⟨rfl,rfl⟩)
  rw[E.out]
  refine dW (v:= .tuple #[.agg #[.int .i64 0,.int .i64 0,.string ⟨#[]⟩,.slice none 0 0,.slice none 0 0],.int .i64 (i:Int),.int .i64 left,.int .i64 50]) (by simp[results,eR,go_sem]) rfl ⟨_,rfl,RepS.zero _ _,?_⟩
  exact(dU _ _).alloc (dQ _) _
 ·clear q
  go_enter fp,fg
  go_wp2_with(go_at_call 101;(with_reducible refine(HC.out _).mono ?_);rintro e w' ⟨rfl,rfl⟩)
  rw[E.out]
  refine dW (v:= .tuple #[.agg #[.int .i64 0,.int .i64 0,.string ⟨#[]⟩,.slice none 0 0,.slice none 0 0],.int .i64 (i:Int),.int .i64 left,.int .i64 50]) (by simp[results,eR,go_sem]) rfl ⟨_,rfl,RepS.zero _ _,?_⟩
  exact(dU _ _).alloc (dQ _) _
theorem NQ (s:ByteArray) (hs:s.size≤5000) (F:Int) (q:Nat→Int→VR) (i:Nat) (left:Int) (hi:i≤s.size) (aj:0≤left) (hl:left≤256) (W:World) (R:f_ (a_ s) i=91) (V:8<F→q i (left-1)=(zeroJ,i,left-1,51)) (U: ¬8<F→ ¬left-1<0→ ∀W:World,Calls prog 106 #[.string s,.int .i64 (i:Int),.int .i64 F,.int .i64 (left-1)] W (sV W (q i (left-1)))):
  Calls prog 72 #[.string s,.int .i64 (i:Int),.int .i64 F,.int .i64 left] W (sV W (mT (a_ s) q i left)):=by
 have HC:=dM (fun W:World=>tl s i W (by omega) (by omega))
 rw[R]at HC
 have E:Hid (mT (a_ s) q i left=if left-1<0 then(zeroJ,i,left-1,53)else q i (left-1)):=dM (by
  unfold mT;rw[R];rfl)
 clear R
 by_cases h1:left-1<0
 ·have D:Hid (mT (a_ s) q i left=(zeroJ,i,left-1,53)):=dM (by rw[E.out,dP h1])
  clear E
  go_enter fp,fg
  go_wp2_with(go_at_call 101;(with_reducible refine(HC.out _).mono ?_);rintro e w' ⟨rfl,rfl⟩)
  rw[D.out]
  refine dW (v:= .tuple #[.agg #[.int .i64 0,.int .i64 0,.string ⟨#[]⟩,.slice none 0 0,.slice none 0 0],.int .i64 (i:Int),.int .i64 (left-1),.int .i64 53]) (by simp[results,eR,go_sem]) rfl ⟨_,rfl,RepS.zero _ _,?_⟩
  exact(dU _ _).alloc (dQ _) _
 ·by_cases hd:8<F
  ·have D:Hid (mT (a_ s) q i left=(zeroJ,i,left-1,51)):=dM (by rw[E.out,dN h1,V hd])
   clear E V U
   go_enter fp,fg
   go_wp2_with(go_at_call 101;(with_reducible refine(HC.out _).mono ?_);rintro e w' ⟨rfl,rfl⟩)
   rw[D.out]
   refine dW (v:= .tuple #[.agg #[.int .i64 0,.int .i64 0,.string ⟨#[]⟩,.slice none 0 0,.slice none 0 0],.int .i64 (i:Int),.int .i64 (left-1),.int .i64 51]) (by simp[results,eR,go_sem]) rfl ⟨_,rfl,RepS.zero _ _,?_⟩
   exact((dU _ _).alloc (dQ _) _).alloc (by simp) _
  ·have D:Hid (mT (a_ s) q i left=q i (left-1)):=dM (by rw[E.out,dN h1])
   have ae:=dM (U hd h1)
   obtain⟨r,hr⟩:=yaa (q i (left-1))
   rw[←hr]at ae D
   obtain⟨x,p,lf,er⟩:=r
   clear E V U hr
   go_enter fp,fg
   go_wp2_with(first
    |(go_at_call 101;(with_reducible refine(HC.out _).mono ?_);rintro e w' ⟨rfl,rfl⟩)
    |(go_at_call 106;(with_reducible refine(ae.out _).mono ?_);rintro e w1 ⟨v,rfl,G,B⟩;obtain⟨vk,A,c,rfl,_,⟨K,d,rfl,_,_⟩,_,_⟩:=G.open;obtain⟨O,ab⟩: ∃a,a=x.kind:=⟨_,rfl⟩;obtain⟨N,aa⟩: ∃a,a=x.n:=⟨_,rfl⟩;obtain⟨M,Z⟩: ∃a,a=x.s:=⟨_,rfl⟩;obtain⟨L,Y⟩: ∃a,a=x.l.length:=⟨_,rfl⟩;obtain⟨I,X⟩: ∃a,a=x.k.length:=⟨_,rfl⟩;rw[←ab,←aa,←Z,←Y,←X]at G⊢;have ag:=dM G;clear G ab aa Z Y X;have HB:=dM (ja (qo W zeros5 zeros5) (B.mono (eV (qo W zeros5 zeros5))));have af:=Blk.below (sW W zeros5 zeros5) B (Blk.lt (sW W zeros5 zeros5));clear B)
    |(refine nn rfl none rfl _ (.tmp 8) _ rfl W.heap.size 0 [.int .i64 O,.int .i64 N,.string M,.slice A L c,.slice K I d] rfl rfl _ _ af (by simp[zeros5]) m8 (by intro v hv;simp at hv;rcases hv with rfl|rfl|rfl|rfl|rfl<;>rfl) ?_;intro w5 ad Q;rw[nr _ _ (by simp[zeros5])]at ad;have ai:=dM (fq HB.out Q (eV HB.out) (by intro k hk;injection hk with hk;omega));have ah:=dM Q;clear Q;try go_frame))
   refine dW (v:= .tuple #[.agg #[.int .i64 O,.int .i64 N,.string M,.slice A L c,.slice K I d],.int .i64 (p:Int),.int .i64 lf,.int .i64 er]) (pN eR _ _ W.heap.size _ [.int .i64 O,.int .i64 N,.string M,.slice A L c,.slice K I d] _ rfl ad ed rfl m8) rfl ?_
   rw[D.out]
   exact⟨_,rfl,RepS.keeps (Keeps.grown ah.out (fun b B e=>by injection e with e;simp at B;omega)) (fun b B _=>by simp at B;omega) _ _ ag.out,ai.out⟩
theorem rW (s:ByteArray) (hs:s.size≤5000) (F:Int) (q:Nat→Int→VR) (i:Nat) (left:Int) (hi:i≤s.size) (aj:0≤left) (hl:left≤256) (W:World) (R:f_ (a_ s) i=123) (V:8<F→q i (left-1)=(zeroJ,i,left-1,51)) (U: ¬8<F→ ¬left-1<0→ ∀W:World,Calls prog 106 #[.string s,.int .i64 (i:Int),.int .i64 F,.int .i64 (left-1)] W (sV W (q i (left-1)))):
  Calls prog 72 #[.string s,.int .i64 (i:Int),.int .i64 F,.int .i64 left] W (sV W (mT (a_ s) q i left)):=by
 have HC:=dM (fun W:World=>tl s i W (by omega) (by omega))
 rw[R]at HC
 have E:Hid (mT (a_ s) q i left=if left-1<0 then(zeroJ,i,left-1,53)else q i (left-1)):=dM (by
  unfold mT;rw[R];rfl)
 clear R
 by_cases h1:left-1<0
 ·have D:Hid (mT (a_ s) q i left=(zeroJ,i,left-1,53)):=dM (by rw[E.out,dP h1])
  clear E
  go_enter fp,fg
  go_wp2_with(go_at_call 101;(with_reducible refine(HC.out _).mono ?_);rintro e w' ⟨rfl,rfl⟩)
  rw[D.out]
  refine dW (v:= .tuple #[.agg #[.int .i64 0,.int .i64 0,.string ⟨#[]⟩,.slice none 0 0,.slice none 0 0],.int .i64 (i:Int),.int .i64 (left-1),.int .i64 53]) (by simp[results,eR,go_sem]) rfl ⟨_,rfl,RepS.zero _ _,?_⟩
  exact(dU _ _).alloc (dQ _) _
 ·by_cases hd:8<F
  ·have D:Hid (mT (a_ s) q i left=(zeroJ,i,left-1,51)):=dM (by rw[E.out,dN h1,V hd])
   clear E V U
   go_enter fp,fg
   go_wp2_with(go_at_call 101;(with_reducible refine(HC.out _).mono ?_);rintro e w' ⟨rfl,rfl⟩)
   rw[D.out]
   refine dW (v:= .tuple #[.agg #[.int .i64 0,.int .i64 0,.string ⟨#[]⟩,.slice none 0 0,.slice none 0 0],.int .i64 (i:Int),.int .i64 (left-1),.int .i64 51]) (by simp[results,eR,go_sem]) rfl ⟨_,rfl,RepS.zero _ _,?_⟩
   exact((dU _ _).alloc (dQ _) _).alloc (by simp) _
  ·have D:Hid (mT (a_ s) q i left=q i (left-1)):=dM (by rw[E.out,dN h1])
   have ae:=dM (U hd h1)
   obtain⟨r,hr⟩:=yaa (q i (left-1))
   rw[←hr]at ae D
   obtain⟨x,p,lf,er⟩:=r
   clear E V U hr
   go_enter fp,fg
   go_wp2_with(first
    |(go_at_call 101;(with_reducible refine(HC.out _).mono ?_);rintro e w' ⟨rfl,rfl⟩)
    |(go_at_call 106;(with_reducible refine(ae.out _).mono ?_);rintro e w1 ⟨v,rfl,G,B⟩;obtain⟨vk,A,c,rfl,_,⟨K,d,rfl,_,_⟩,_,_⟩:=G.open;obtain⟨O,ab⟩: ∃a,a=x.kind:=⟨_,rfl⟩;obtain⟨N,aa⟩: ∃a,a=x.n:=⟨_,rfl⟩;obtain⟨M,Z⟩: ∃a,a=x.s:=⟨_,rfl⟩;obtain⟨L,Y⟩: ∃a,a=x.l.length:=⟨_,rfl⟩;obtain⟨I,X⟩: ∃a,a=x.k.length:=⟨_,rfl⟩;rw[←ab,←aa,←Z,←Y,←X]at G⊢;have ag:=dM G;clear G ab aa Z Y X;have HB:=dM (ja (qo W zeros5 zeros5) (B.mono (eV (qo W zeros5 zeros5))));have af:=Blk.below (sW W zeros5 zeros5) B (Blk.lt (sW W zeros5 zeros5));clear B)
    |(refine nn rfl none rfl _ (.tmp 8) _ rfl W.heap.size 0 [.int .i64 O,.int .i64 N,.string M,.slice A L c,.slice K I d] rfl rfl _ _ af (by simp[zeros5]) m8 (by intro v hv;simp at hv;rcases hv with rfl|rfl|rfl|rfl|rfl<;>rfl) ?_;intro w5 ad Q;rw[nr _ _ (by simp[zeros5])]at ad;have ai:=dM (fq HB.out Q (eV HB.out) (by intro k hk;injection hk with hk;omega));have ah:=dM Q;clear Q;try go_frame))
   refine dW (v:= .tuple #[.agg #[.int .i64 O,.int .i64 N,.string M,.slice A L c,.slice K I d],.int .i64 (p:Int),.int .i64 lf,.int .i64 er]) (pN eR _ _ W.heap.size _ [.int .i64 O,.int .i64 N,.string M,.slice A L c,.slice K I d] _ rfl ad ed rfl m8) rfl ?_
   rw[D.out]
   exact⟨_,rfl,RepS.keeps (Keeps.grown ah.out (fun b B e=>by injection e with e;simp at B;omega)) (fun b B _=>by simp at B;omega) _ _ ag.out,ai.out⟩
theorem MU (s:ByteArray) (D:s.size≤5000) (q:Int) (B:Nat→Int→VR) (i:Nat) (left:Int) (hi:i≤s.size) (E:0≤left) (F:left≤256) (W:World)
  (N:8<q→B i (left-1)=(zeroJ,i,left-1,51)) (R:f_ (a_ s) i=91∨f_ (a_ s) i=123→ ¬8<q→i<s.size→0≤left-1→ ∀W:World,Calls prog 106 #[.string s,.int .i64 (i:Int),.int .i64 q,.int .i64 (left-1)] W (sV W (B i (left-1)))):
  Calls prog 72 #[.string s,.int .i64 (i:Int),.int .i64 q,.int .i64 left] W (sV W (mT (a_ s) B i left)):=by
 have O:f_ (a_ s) i≠ -1→i<s.size:=fun h=>by rw[←j_];exact oq h
 by_cases I:pA (f_ (a_ s) i)=true
 ·have Q:f_ (a_ s) i=45∨(48≤f_ (a_ s) i∧f_ (a_ s) i≤57)∨f_ (a_ s) i=110∨f_ (a_ s) i=116∨f_ (a_ s) i=102∨f_ (a_ s) i=34∨f_ (a_ s) i=91∨f_ (a_ s) i=123:=by
   unfold pA at I;rw[eb]at I;exact I
  have M:(f_ (a_ s) i=91∨f_ (a_ s) i=123)→ ¬8<q→ ∀W:World,left-1<0∨Calls prog 106 #[.string s,.int .i64 (i:Int),.int .i64 q,.int .i64 (left-1)] W (sV W (B i (left-1))):=fun h G W=>by
   by_cases h1:left-1<0
   ·exact .inl h1
   ·exact .inr (R h G (O (by omega)) (by omega) W)
  rcases Q with h|h|h|h|h|h|h|h
  ·exact M8 s D q B i left hi E F W (.inl h)
  ·exact M8 s D q B i left hi E F W (.inr h)
  ·exact NS s D q B i left hi E F W h
  ·exact NU s D q B i left hi E F W h
  ·exact N6 s D q B i left hi E F W h
  ·exact NT s D q B i left hi E F W h
  ·exact NQ s D q B i left hi E F W h N (fun G L W=>(M (.inl h) G W).resolve_left L)
  ·exact rW s D q B i left hi E F W h N (fun G L W=>(M (.inr h) G W).resolve_left L)
 ·exact NR s D q B i left hi E F W I
theorem JR {v:Value} {a B:Nat} (h: ∀k,v.ownBlock=some k→B≤k) (q:a<B):some a≠v.ownBlock:=fun e=>by
 have:=h a e.symm;omega
def ListInv (W wr:World) (vs:List J) (xs:List Value) (vL:Value):Prop:=
 Blk wr W.heap.size 63 zeros5∧Blk wr (W.heap.size+1) 63 [.int .i64 4,.int .i64 0,.string ⟨#[]⟩,vL,.slice none 0 0]∧
 wr.ownsRow (W.heap.size+2) 63 5 vL vs.length xs∧FlatJ wr (fun b=>W.heap.size+2≤b∧vL.ownBlock≠some b) vs xs∧Below W.heap.size W wr∧W.heap.size+2≤wr.heap.size
theorem ListInv.add {W wr F E:World} {vs:List J} {xs:List Value} {L:Value} {x:J} {c0 c1 c2 c3 c4:Value} {g m I:Nat} (hI:ListInv W wr vs xs L) (M:Below wr.heap.size wr F) (hx:RepS F (fun b=>wr.heap.size≤b) x (.agg #[c0,c1,c2,c3,c4]))
  (B:F.grownBy E L.ownBlock) (hm:m=vs.length+1) (U:E.ownsRow (W.heap.size+2) 63 5 (.slice (some ⟨g,0,none⟩) m I) m (xs++[c0,c1,c2,c3,c4])) (Y:L.ownBlock=some g∨F.heap.size≤g):
  ListInv W (E.setCell ⟨W.heap.size+1,3,none⟩ (.slice (some ⟨g,0,none⟩) m I)) (vs++[x]) (xs++[c0,c1,c2,c3,c4]) (.slice (some ⟨g,0,none⟩) m I):=by
 subst hm
 obtain⟨h8,aa,Z,hf,hb,ab⟩:=hI
 have N:=fun k q=>(Z.lt k q).1
 have O:=fun k q=>(Z.lt k q).2
 have G:=ou E (W.heap.size+1) 3 (.slice (some ⟨g,0,none⟩) (vs.length+1) I)
 have ae:W.heap.size+2≤g:=(U.lt g rfl).1
 have X:Below W.heap.size W F:=hb.trans (M.mono (by omega))
 have V:Below W.heap.size W E:=X.grown B X.size (fun k q=>by have:=N k q;omega)
 have ad:Below W.heap.size W (E.setCell ⟨W.heap.size+1,3,none⟩ (.slice (some ⟨g,0,none⟩) (vs.length+1) I)):=V.grown G V.size (by intro k q;injection q with q;omega)
 have R:=M.size
 have Q: ∀(b:Nat),W.heap.size+2≤b→L.ownBlock≠some b→b<F.heap.size→(E.setCell ⟨W.heap.size+1,3,none⟩ (.slice (some ⟨g,0,none⟩) (vs.length+1) I)).heap[b]? =F.heap[b]? :=fun b h1 h2 D=>
  (G.block b (dX D B.size) (by intro e;injection e with e;omega)).trans (B.block b D (fun e=>h2 e.symm))
 refine⟨((h8.below M h8.lt).grown B (JR N (by omega))).grown G (by intro e;injection e with e;omega),?_,?_,?_,ad,dV ab (dV R (dV B.size G.size))⟩
 ·exact((aa.below M aa.lt).grown B (JR N (by omega))).setCell 3 _
 ·rw[dS]
  exact lR U G (.inr (by simp[Value.ownBlock];omega))
 ·refine FlatJ.snoc ?_ ?_
  ·refine RepS.keeps (S:=fun b=>wr.heap.size≤b) ⟨dV B.size G.size,fun b h1 D=> ?_⟩ (fun b h1 D=> ?_) _ _ hx
   ·replace h1:wr.heap.size≤b:=h1
    exact Q b (by omega) (fun e=>by have:=O b e;omega) D
   ·replace h1:wr.heap.size≤b:=h1
    refine⟨by omega,fun e=> ?_⟩
    have e:g=b:=by simpa[Value.ownBlock]using e
    rcases Y with h|h
    ·have:=O g h;omega
    ·omega
  ·refine hf.keeps (S:=fun b=>W.heap.size+2≤b∧L.ownBlock≠some b) ⟨dV R (dV B.size G.size),fun b h1 D=> ?_⟩ (fun b h1 D=> ?_)
   ·exact(Q b h1.1 h1.2 (by omega)).trans (M.block b D)
   ·refine⟨h1.1,fun e=> ?_⟩
    have e:g=b:=by simpa[Value.ownBlock]using e
    rcases Y with h|h
    ·exact h1.2 (by rw[h,e])
    ·omega
theorem ListInv.tells {W wr w':World} {vs:List J} {xs:List Value} {q:Value} (L:ListInv W wr vs xs q) (D:wr.grownBy w' (some W.heap.size)) (B:vs.length≤9223372036854775807):
  RepS w' (fun b=>W.heap.size≤b) (.mk 4 0 ⟨#[]⟩ vs []) (.agg #[.int .i64 4,.int .i64 0,.string ⟨#[]⟩,q,.slice none 0 0]):=by
 obtain⟨Q,R,E,I,O,N⟩:=L
 have F:=fun k G=>(E.lt k G).1
 refine RepS.of_rows (S:=fun b=>W.heap.size+2≤b) (base:=W.heap.size+2) (xs:=xs) (E.kept D ?_) ?_ (ft _ _ _ _) (fun b h _=>by replace h:W.heap.size+2≤b:=h;show W.heap.size≤b;omega) (fun b h=>by show W.heap.size≤b;omega) (by decide) B (by simp) (by simp)
 ·cases B:q.ownBlock with
  |none=>exact .inl rfl
  |some g=>exact .inr (fun e=>by injection e with e;have:=F g B;omega)
 ·exact I.keeps (T:=fun b=>W.heap.size+2≤b) ⟨D.size,fun b h1 M=>D.block b M (by intro e;injection e with e;have:=h1.1;omega)⟩ (fun b h1 _=>h1.1)
theorem GF:(prog.info? 63).map (fun i=>(i.zero,i.size,i.bytes))=some (some (.agg #[.int .i64 0,.int .i64 0,.string ⟨#[]⟩,.slice none 0 0,.slice none 0 0]),5,80):=by kernel_rfl
theorem sU:(prog.info? 63).map (·.zero)=some (some (.agg zeros5.toArray)):=by kernel_rfl
structure ValOk (s:ByteArray) (deep:Int) (val:Nat→Int→VR):Prop where
 calls: ∀(i:Nat) (left:Int) (W:World),i≤s.size→0≤left→left≤256→Calls prog 72 #[.string s,.int .i64 (i:Int),.int .i64 (deep+1),.int .i64 left] W (sV W (val i left))
 moves: ∀(i:Nat) (left:Int),i≤s.size→0≤left→left≤256→(val i left).2.2.2=0→i<(val i left).2.1∧(val i left).2.1≤s.size∧0≤(val i left).2.2.1∧(val i left).2.2.1≤256
theorem rl {W D:World} (h:Below W.heap.size W D) {M L I G F:Value} (E:Blk D W.heap.size 63 [M,L,I,G,F]) (z0 B q z3 z4:Value):
  Blk (((((D.setCell ⟨W.heap.size,0,none⟩ z0).setCell ⟨W.heap.size,1,none⟩ B).setCell ⟨W.heap.size,2,none⟩ q).setCell ⟨W.heap.size,3,none⟩ z3).setCell ⟨W.heap.size,4,none⟩ z4) W.heap.size 63 [z0,B,q,z3,z4]∧
  Below W.heap.size W (((((D.setCell ⟨W.heap.size,0,none⟩ z0).setCell ⟨W.heap.size,1,none⟩ B).setCell ⟨W.heap.size,2,none⟩ q).setCell ⟨W.heap.size,3,none⟩ z3).setCell ⟨W.heap.size,4,none⟩ z4)∧
  D.grownBy (((((D.setCell ⟨W.heap.size,0,none⟩ z0).setCell ⟨W.heap.size,1,none⟩ B).setCell ⟨W.heap.size,2,none⟩ q).setCell ⟨W.heap.size,3,none⟩ z3).setCell ⟨W.heap.size,4,none⟩ z4) (some W.heap.size):=
 ⟨(pE h E z0 B q z3 z4).1,(pE h E z0 B q z3 z4).2,((((ou D W.heap.size 0 z0).trans (ou _ W.heap.size 1 B)).trans (ou _ W.heap.size 2 q)).trans (ou _ W.heap.size 3 z3)).trans (ou _ W.heap.size 4 z4)⟩
theorem qY {w w':World} {b:Nat} {e:TypeId} {z n:Nat} {v:Value} {xs:List Value} (h:w.ownsRow b e z v n xs) (q:Below w.heap.size w w'):w'.ownsRow b e z v n xs:=
 h.kept (od q none) (by cases B:v.ownBlock<;>simp)
theorem yM {wr q D B:World} {g:Nat} (h1:Below wr.heap.size wr q) (F:q.grownBy D none) (I:q.heap.size≤g) (G:D.grownBy B (some g)):Below wr.heap.size wr B:=
 (h1.grown F h1.size (by simp)).grown G (dV h1.size F.size) (by intro k E;injection E with E;have:=h1.size;omega)
theorem BS {wr q E D:World} {g:Nat} (B:q.grownBy E none) (I:q.heap.size≤g) (G:E.grownBy D (some g)):Keeps (fun b=>wr.heap.size≤b) q D:=
 ⟨dV B.size G.size,fun b _ F=>(G.block b (dX F B.size) (by intro e;injection e with e;omega)).trans (B.block b F (by simp))⟩
theorem xJ (W:World):ListInv W ((W.alloc (.cells zeros5.toArray 63)).alloc (.cells #[.int .i64 4,.int .i64 0,.string ⟨#[]⟩,.slice none 0 0,.slice none 0 0] 63)) [] [] (.slice none 0 0):=
 ⟨sW W zeros5 [.int .i64 4,.int .i64 0,.string ⟨#[]⟩,.slice none 0 0,.slice none 0 0],yN W zeros5 [.int .i64 4,.int .i64 0,.string ⟨#[]⟩,.slice none 0 0,.slice none 0 0],ft _ _ _ _,rfl,qo W zeros5 [.int .i64 4,.int .i64 0,.string ⟨#[]⟩,.slice none 0 0,.slice none 0 0],by simp⟩
theorem sb (s:ByteArray) (hs:s.size≤5000) (aY:Int) (bT:0≤aY) (hd:aY≤8) (val:Nat→Int→VR) (q:ValOk s aY val) (i:Nat) (left:Int) (hi:i<s.size) (bF:0≤left) (hl:left≤256) (W:World) (hc:f_ (a_ s) i=91):
  Calls prog 106 #[.string s,.int .i64 (i:Int),.int .i64 aY,.int .i64 left] W (sV W (nV (a_ s) val i left)):=by
 have ay:=dM (j_ s)
 have HV:=dM q
 have hG:=FY s i hi
 rw[hc]at hG
 have bR:(((s[i]'hi).toNat:Int)==123)=false:=by rw[←hG];rfl
 have bk:=dM (fun W:World=>Ef s ((i:Int)+1) (i+1) W (by omega) (by omega) (by omega))
 have aD:=BQ s.size (a_ s) (i+1) (by rw[ay.out];omega) (by rw[ay.out];omega)
 rw[ay.out]at aD
 have HM:Hid (nV (a_ s) val i left=nW (a_ s) val false (s.size+1) true (d_ (a_ s) (i+1)) left [] []):=dM (by
  unfold nV;rw[hc,ay.out];rfl)
 obtain⟨k0,bn⟩: ∃k,k=d_ (a_ s) (i+1):=⟨_,rfl⟩
 rw[←bn]at bk aD HM
 have bO:Hid (k0≤s.size):=dM aD.2
 have bs:=dM (xJ W)
 clear hc hG bn aD q
 obtain⟨iJ,hJ,br,bq,bp⟩:=gw GF
 go_enter func106,ntmps106
 go_wp2_with(go_at_call 73;(with_reducible refine(bk.out _).mono ?_);rintro e w' ⟨rfl,rfl⟩)
 go_loopw[1,3,14] (fun a b c wr=> ∃(k f:Nat) (G:Int) (aS:Bool) (vs:List J) (xs:List Value) (vL:Value),a= .int .i64 (k:Int)∧b= .int .i64 G∧c= .bool aS∧k≤s.size∧s.size<k+f∧0≤G∧G≤256∧vs.length≤k∧nV (a_ s) val i left=nW (a_ s) val false f aS k G [] vs∧ListInv W wr vs xs vL) (fun a _ _ _=>s.size-(intOf a).toNat)
 case atStart=>exact⟨k0,s.size+1,left,true,[],[],.slice none 0 0,rfl,rfl,rfl,bO.out,by omega,bF,hl,by simp,HM.out,bs.out⟩
 case round=>
  obtain⟨k,f,G,aS,vs,xs,vL,rfl,rfl,rfl,U,hf,aW,aV,bP,bm,hI⟩:=hrel
  have bl:=dM bm
  have HI:=dM hI
  obtain⟨D,E,hL,bG,hb,bQ⟩:=hI
  have HL:=dM hL
  have HB:=dM hb
  clear bm hL bG hb HM bs bk
  obtain⟨f,rfl⟩: ∃g,f=g+1:=⟨f-1,by omega⟩
  have HC:=dM (fun W:World=>tl s k W (by omega) (by omega))
  by_cases aC:f_ (a_ s) k=93
  ·skip
   have I:Hid (nV (a_ s) val i left=(.mk 4 0 ⟨#[]⟩ vs [],d_ (a_ s) (k+1),G,0)):=dM (by rw[bl.out,nW];exact dP aC)
   have bt:=dM (fun W:World=>Ef s ((k:Int)+1) (k+1) W (by omega) (by omega) (by have:=oq (l:=a_ s) (i:=k) (by rw[aC];decide);rw[ay.out]at this;omega))
   rw[aC]at HC
   clear aC
   rcases HL.out.2 with⟨rfl,h0⟩|⟨g,aT,bU,rfl,_⟩
   ·clear h0
    obtain⟨a0,a1,a2,a3,a4⟩:wr.cell? ⟨W.heap.size,0,none⟩=some (.int .i64 0)∧wr.cell? ⟨W.heap.size,1,none⟩=some (.int .i64 0)∧wr.cell? ⟨W.heap.size,2,none⟩=some (.string ⟨#[]⟩)∧wr.cell? ⟨W.heap.size,3,none⟩=some (.slice none 0 0)∧wr.cell? ⟨W.heap.size,4,none⟩=some (.slice none 0 0):=⟨D.cell 0,D.cell 1,D.cell 2,D.cell 3,D.cell 4⟩
    obtain⟨bL,bK,bJ,bI,bH⟩:wr.frozen? ⟨W.heap.size,0,none⟩=false∧wr.frozen? ⟨W.heap.size,1,none⟩=false∧wr.frozen? ⟨W.heap.size,2,none⟩=false∧wr.frozen? ⟨W.heap.size,3,none⟩=false∧wr.frozen? ⟨W.heap.size,4,none⟩=false:=⟨D.frozen 0,D.frozen 1,D.frozen 2,D.frozen 3,D.frozen 4⟩
    obtain⟨b0,b1,b2,b3,b4⟩:wr.cell? ⟨W.heap.size+1,0,none⟩=some (.int .i64 4)∧wr.cell? ⟨W.heap.size+1,1,none⟩=some (.int .i64 0)∧wr.cell? ⟨W.heap.size+1,2,none⟩=some (.string ⟨#[]⟩)∧wr.cell? ⟨W.heap.size+1,3,none⟩=some (.slice none 0 0)∧wr.cell? ⟨W.heap.size+1,4,none⟩=some (.slice none 0 0):=⟨E.cell 0,E.cell 1,E.cell 2,E.cell 3,E.cell 4⟩
    go_wp2_with(go_at_call 101;(with_reducible refine(HC.out _).mono ?_);rintro e w' ⟨rfl,rfl⟩)
    have a6:IntKind.i64.wrap ((k:Int)+1)=(k:Int)+1:=by rw[es];omega
    go_region_law(go_simp;go_at_call 73;(with_reducible refine(bt.out _).mono ?_);rintro e w' ⟨rfl,rfl⟩)
    all_goals
     clear a6
     go_wp2_with fail
     simp only[fk,fD,eZ,Act.put,fE,gR,gt]
     obtain⟨hA,bh,bf⟩:=rl HB.out D (.int .i64 4) (.int .i64 0) (.string ⟨#[]⟩) (.slice none 0 0) (.slice none 0 0)
     obtain⟨hC,bc,bb⟩:=rl (sX HB.out) D.drew (.int .i64 4) (.int .i64 0) (.string ⟨#[]⟩) (.slice none 0 0) (.slice none 0 0)
     have bi:=hA.drew
     have bg:=sX bh
     have bd:=nx bf
     have ba:=(nx (ov wr (some W.heap.size))).trans bb
     refine dW (v:= .tuple #[.agg #[.int .i64 4,.int .i64 0,.string ⟨#[]⟩,.slice none 0 0,.slice none 0 0],.int .i64 (d_ (a_ s) (k+1):Nat),.int .i64 G,.int .i64 0]) (pN gB _ _ W.heap.size _ [.int .i64 4,.int .i64 0,.string ⟨#[]⟩,.slice none 0 0,.slice none 0 0] _ rfl (by first|(with_reducible exact bi)|(with_reducible exact hC)) ed rfl m8) rfl ?_
     rw[I.out]
     exact⟨_,rfl,HI.out.tells (by first|(with_reducible exact bd)|(with_reducible exact ba)) (by omega),(by first|(with_reducible exact bg)|(with_reducible exact bc))⟩
   ·skip
    obtain⟨a0,a1,a2,a3,a4⟩:wr.cell? ⟨W.heap.size,0,none⟩=some (.int .i64 0)∧wr.cell? ⟨W.heap.size,1,none⟩=some (.int .i64 0)∧wr.cell? ⟨W.heap.size,2,none⟩=some (.string ⟨#[]⟩)∧wr.cell? ⟨W.heap.size,3,none⟩=some (.slice none 0 0)∧wr.cell? ⟨W.heap.size,4,none⟩=some (.slice none 0 0):=⟨D.cell 0,D.cell 1,D.cell 2,D.cell 3,D.cell 4⟩
    obtain⟨bL,bK,bJ,bI,bH⟩:wr.frozen? ⟨W.heap.size,0,none⟩=false∧wr.frozen? ⟨W.heap.size,1,none⟩=false∧wr.frozen? ⟨W.heap.size,2,none⟩=false∧wr.frozen? ⟨W.heap.size,3,none⟩=false∧wr.frozen? ⟨W.heap.size,4,none⟩=false:=⟨D.frozen 0,D.frozen 1,D.frozen 2,D.frozen 3,D.frozen 4⟩
    obtain⟨b0,b1,b2,b3,b4⟩:wr.cell? ⟨W.heap.size+1,0,none⟩=some (.int .i64 4)∧wr.cell? ⟨W.heap.size+1,1,none⟩=some (.int .i64 0)∧wr.cell? ⟨W.heap.size+1,2,none⟩=some (.string ⟨#[]⟩)∧wr.cell? ⟨W.heap.size+1,3,none⟩=some (.slice (some ⟨g,0,none⟩) vs.length aT)∧wr.cell? ⟨W.heap.size+1,4,none⟩=some (.slice none 0 0):=⟨E.cell 0,E.cell 1,E.cell 2,E.cell 3,E.cell 4⟩
    go_wp2_with(go_at_call 101;(with_reducible refine(HC.out _).mono ?_);rintro e w' ⟨rfl,rfl⟩)
    have a6:IntKind.i64.wrap ((k:Int)+1)=(k:Int)+1:=by rw[es];omega
    go_region_law(go_simp;go_at_call 73;(with_reducible refine(bt.out _).mono ?_);rintro e w' ⟨rfl,rfl⟩)
    all_goals
     clear a6
     go_wp2_with fail
     simp only[fk,fD,eZ,Act.put,fE,gR,gt]
     obtain⟨hA,bh,bf⟩:=rl HB.out D (.int .i64 4) (.int .i64 0) (.string ⟨#[]⟩) (.slice (some ⟨g,0,none⟩) vs.length aT) (.slice none 0 0)
     obtain⟨hC,bc,bb⟩:=rl (sX HB.out) D.drew (.int .i64 4) (.int .i64 0) (.string ⟨#[]⟩) (.slice (some ⟨g,0,none⟩) vs.length aT) (.slice none 0 0)
     have bi:=hA.drew
     have bg:=sX bh
     have bd:=nx bf
     have ba:=(nx (ov wr (some W.heap.size))).trans bb
     refine dW (v:= .tuple #[.agg #[.int .i64 4,.int .i64 0,.string ⟨#[]⟩,.slice (some ⟨g,0,none⟩) vs.length aT,.slice none 0 0],.int .i64 (d_ (a_ s) (k+1):Nat),.int .i64 G,.int .i64 0]) (pN gB _ _ W.heap.size _ [.int .i64 4,.int .i64 0,.string ⟨#[]⟩,.slice (some ⟨g,0,none⟩) vs.length aT,.slice none 0 0] _ rfl (by first|(with_reducible exact bi)|(with_reducible exact hC)) ed rfl m8) rfl ?_
     rw[I.out]
     exact⟨_,rfl,HI.out.tells (by first|(with_reducible exact bd)|(with_reducible exact ba)) (by omega),(by first|(with_reducible exact bg)|(with_reducible exact bc))⟩
  ·skip
   obtain⟨c,aX⟩:=yaa (f_ (a_ s) k)
   have bN:Hid (c≠ -1→k<s.size):=dM (fun h=>by rw[←ay.out];exact oq (by rw[←aX];exact h))
   have aN:Hid (nV (a_ s) val i left=if aS=true then rD (a_ s) val false (nW (a_ s) val false f false) k G [] vs else if c≠44 then(zeroJ,k,G,50)else rD (a_ s) val false (nW (a_ s) val false f false) (d_ (a_ s) (k+1)) G [] vs):=dM (by rw[bl.out,nW,aX];exact dN aC)
   rw[←aX]at HC aC
   obtain⟨o1,o2⟩:=o8 aC
   clear aX aC bl
   obtain⟨r0,r1,r2,r3,r4⟩:wr.cell? ⟨W.heap.size+1,0,none⟩=some (.int .i64 4)∧wr.cell? ⟨W.heap.size+1,1,none⟩=some (.int .i64 0)∧wr.cell? ⟨W.heap.size+1,2,none⟩=some (.string ⟨#[]⟩)∧wr.cell? ⟨W.heap.size+1,3,none⟩=some (vL)∧wr.cell? ⟨W.heap.size+1,4,none⟩=some (.slice none 0 0):=⟨E.cell 0,E.cell 1,E.cell 2,E.cell 3,E.cell 4⟩
   cases aS with
   |true=>
    have aM:Hid (nV (a_ s) val i left=s8 (a_ s) val false (nW (a_ s) val false f false) k G ⟨#[]⟩ [] vs):=dM (aN.out.trans (dP rfl))
    clear aN
    have aH:=dM (fun W:World=>HV.out.calls k G W (by omega) aW aV)
    have ax:=HV.out.moves k G (by omega) aW aV
    obtain⟨r,hr⟩:=yaa (val k G)
    have az:Hid (nV (a_ s) val i left=if r.2.2.2≠0 then(zeroJ,r.2.1,r.2.2.1,r.2.2.2)else if f_ (a_ s) r.2.1≠44∧f_ (a_ s) r.2.1≠93 then(zeroJ,r.2.1,r.2.2.1,50)else nW (a_ s) val false f false r.2.1 r.2.2.1 [] (vs++[r.1])):=dM (by
     rw[aM.out,hr];rfl)
    rw[←hr]at aH ax
    clear hr aM
    obtain⟨x,p,n,er⟩:=r
    by_cases he:er=0
    ·have a7:=ax he
     obtain⟨p0,p1,n0,n1⟩:k<p∧p≤s.size∧0≤n∧n≤256:=a7
     have aA:=dM (fun W:World=>tl s p W (by omega) (by omega))
     have af:Hid (nV (a_ s) val i left=if f_ (a_ s) p≠44∧f_ (a_ s) p≠93 then(zeroJ,p,n,50)else nW (a_ s) val false f false p n [] (vs++[x])):=dM (az.out.trans (dN (fun h=>h he)))
     obtain⟨e1,e2⟩:=pY he
     obtain⟨c2,aP⟩: ∃c,c=f_ (a_ s) p:=⟨_,rfl⟩
     rw[←aP]at aA af
     clear he ax az aP
     go_wp2_with(first|(go_at_call 101;(with_reducible refine(HC.out _).mono ?_);rintro e w' ⟨rfl,rfl⟩)|(go_at_call 72;(with_reducible refine(aH.out _).mono ?_);rintro e w1 ⟨v,rfl,R,ar⟩;obtain⟨vk,A,Y,rfl,_,⟨K,X,rfl,_,_⟩,_,_⟩:=R.open;obtain⟨Q,ao⟩: ∃a,a=x.kind:=⟨_,rfl⟩;obtain⟨O,am⟩: ∃a,a=x.n:=⟨_,rfl⟩;obtain⟨N,ak⟩: ∃a,a=x.s:=⟨_,rfl⟩;obtain⟨M,aj⟩: ∃a,a=x.l.length:=⟨_,rfl⟩;obtain⟨L,ai⟩: ∃a,a=x.k.length:=⟨_,rfl⟩;rw[←ao,←am,←ak,←aj,←ai]at R⊢;have aI:=dM R;have aJ:=dM ar;clear R ao am ak aj ai ar)|(refine nG rfl (some 21) rfl _ rfl _ sU ?_;intro aa w2 aq aF ap;have aw:=dM ap;have av:=dM aq;clear ap aq;try go_frame)|(refine nn rfl none rfl _ (.tmp 21) _ rfl aa 0 [.int .i64 Q,.int .i64 O,.string N,.slice A M Y,.slice K L X] rfl rfl _ _ aF (by simp[zeros5]) m8 (by intro v q;simp at q;rcases q with rfl|rfl|rfl|rfl|rfl<;>rfl) ?_;intro B Z ab;rw[nr _ _ (by simp[zeros5])]at Z;have F:=dM (yM aJ.out aw.out av.out ab);have aU:=dM (RepS.keeps (BS aw.out av.out ab) (fun _ h _=>h) _ _ aI.out);clear ab;have aQ:=Blk.below D F.out D.lt;have ad:=Blk.below E F.out E.lt;have aK:=dM (HB.out.trans (F.out.mono HB.out.size));obtain⟨b0,b1,b2,b3,b4⟩:B.cell? ⟨W.heap.size+1,0,none⟩=some (.int .i64 4)∧B.cell? ⟨W.heap.size+1,1,none⟩=some (.int .i64 0)∧B.cell? ⟨W.heap.size+1,2,none⟩=some (.string ⟨#[]⟩)∧B.cell? ⟨W.heap.size+1,3,none⟩=some (vL)∧B.cell? ⟨W.heap.size+1,4,none⟩=some (.slice none 0 0):=⟨ad.cell 0,ad.cell 1,ad.cell 2,ad.cell 3,ad.cell 4⟩;obtain⟨d0,d1,d2,d3,d4⟩:B.cell? ⟨aa,0,none⟩=some (.int .i64 Q)∧B.cell? ⟨aa,1,none⟩=some (.int .i64 O)∧B.cell? ⟨aa,2,none⟩=some (.string N)∧B.cell? ⟨aa,3,none⟩=some (.slice A M Y)∧B.cell? ⟨aa,4,none⟩=some (.slice K L X):=⟨Z.cell 0,Z.cell 1,Z.cell 2,Z.cell 3,Z.cell 4⟩;try go_frame)|(at_builtin;refine gQ _ rfl (.tmp 121) (.tmp 123) 60 rfl (W.heap.size+2) 63 iJ (.agg #[.int .i64 0,.int .i64 0,.string ⟨#[]⟩,.slice none 0 0,.slice none 0 0]) 5 80 f9 hJ br bq bp rfl (by decide) vL vs.length _ rfl ((qY HL.out F.out).alloc _) ⟨B.heap.size,0,none⟩ 1 1 [.int .i64 Q,.int .i64 O,.string N,.slice A M Y,.slice K L X] rfl rfl ?bE ?bD (by decide) ?bC ?bB ?bA _ rfl ?_))
     case bE=>first|exact eU (cs:= #[.int .i64 Q,.int .i64 O,.string N,.slice A M Y,.slice K L X]) (eC B _)|skip
     case bD=>intro v q;simp at q;rcases q with rfl|rfl|rfl|rfl|rfl<;>rfl
     case bC=>unfold maxLen;omega
     case bB=>omega
     case bA=>have:=HI.out.2.2.2.2.2;have:=F.out.size;simp;omega
     intro gn bM w5 aO aE aR a8
     have H4:Below wr.heap.size wr (B.alloc (.cells #[.int .i64 Q,.int .i64 O,.string N,.slice A M Y,.slice K L X] 63)):=F.out.alloc F.out.size _
     have au:=dM (HI.out.add H4 (RepS.keeps (Keeps.grown (dO B (.cells #[.int .i64 Q,.int .i64 O,.string N,.slice A M Y,.slice K L X] 63) none) (fun b _ e=>by cases e)) (fun _ h _=>h) _ _ aU.out) aE rfl aO (aR.imp_right (fun h=>by first|exact ix h.symm|(simp at h⊢;omega))))
     have aG:=(ad.grownN (dO B (.cells #[.int .i64 Q,.int .i64 O,.string N,.slice A M Y,.slice K L X] 63) none)).grown aE (JR (fun k U=>(HL.out.lt k U).1) (by omega))
     have i3:w5.cell? ⟨W.heap.size+1,3,none⟩=some vL:=aG.cell 3
     have i4:=aG.frozen 3
     clear aO aE aR a8 H4 aG
     by_cases ae:c2=44
     ·obtain⟨g1,g2⟩:=pY ae
      have I:Hid (nV (a_ s) val i left=nW (a_ s) val false f false p n [] (vs++[x])):=dM (af.out.trans (dN (fun h=>h.1 ae)))
      clear ae af
      go_wp2_with(go_at_call 101;(with_reducible refine(aA.out _).mono ?_);rintro e w' ⟨rfl,rfl⟩)
      go_roundw
      case rel=>exact⟨p,f,n,false,vs++[x],_,_,rfl,rfl,rfl,p1,by omega,n0,n1,by rw[dS];simp;omega,I.out,au.out⟩
      case measure=>simp[intOf];omega
     ·obtain⟨g1,g2⟩:=o8 ae
      by_cases ah:c2=93
      ·obtain⟨g3,g4⟩:=pY ah
       have I:Hid (nV (a_ s) val i left=nW (a_ s) val false f false p n [] (vs++[x])):=dM (af.out.trans (dN (fun h=>h.2 ah)))
       clear ae ah af
       go_wp2_with(go_at_call 101;(with_reducible refine(aA.out _).mono ?_);rintro e w' ⟨rfl,rfl⟩)
       go_roundw
       case rel=>exact⟨p,f,n,false,vs++[x],_,_,rfl,rfl,rfl,p1,by omega,n0,n1,by rw[dS];simp;omega,I.out,au.out⟩
       case measure=>simp[intOf];omega
      ·obtain⟨g3,g4⟩:=o8 ah
       have I:Hid (nV (a_ s) val i left=(zeroJ,p,n,50)):=dM (af.out.trans (dP ⟨ae,ah⟩))
       clear ae ah af
       go_wp2_with(first|(go_at_call 101;(with_reducible refine(aA.out _).mono ?_);rintro e w' ⟨rfl,rfl⟩)|(refine nn rfl none rfl _ (.tmp 8) _ rfl W.heap.size 0 [.int .i64 0,.int .i64 0,.string ⟨#[]⟩,.slice none 0 0,.slice none 0 0] rfl rfl _ _ au.out.1 (by simp[zeros5]) m8 (by intro v q;simp at q;rcases q with rfl|rfl|rfl|rfl|rfl<;>rfl) ?_;intro w9 ag V;rw[nr _ _ (by simp[zeros5])]at ag;have aB:=dM (fq au.out.2.2.2.2.1 V (eV au.out.2.2.2.2.1) (by intro k U;injection U with U;omega));have aZ:=dM V;clear V;try go_frame))
       refine dW (v:= .tuple #[.agg #[.int .i64 0,.int .i64 0,.string ⟨#[]⟩,.slice none 0 0,.slice none 0 0],.int .i64 (p:Int),.int .i64 n,.int .i64 50]) (pN gB _ _ W.heap.size _ [.int .i64 0,.int .i64 0,.string ⟨#[]⟩,.slice none 0 0,.slice none 0 0] _ rfl ag ed rfl m8) rfl ?_
       rw[I.out]
       exact⟨_,rfl,RepS.zero _ _,aB.out⟩
    ·have I:Hid (nV (a_ s) val i left=(zeroJ,p,n,er)):=dM (az.out.trans (dP he))
     obtain⟨e1,e2⟩:=o8 he
     clear he ax az
     go_wp2_with(first|(go_at_call 101;(with_reducible refine(HC.out _).mono ?_);rintro e w' ⟨rfl,rfl⟩)|(go_at_call 72;(with_reducible refine(aH.out _).mono ?_);rintro e w1 ⟨v,rfl,R,ar⟩;obtain⟨vk,A,Y,rfl,_,⟨K,X,rfl,_,_⟩,_,_⟩:=R.open;obtain⟨Q,ao⟩: ∃a,a=x.kind:=⟨_,rfl⟩;obtain⟨O,am⟩: ∃a,a=x.n:=⟨_,rfl⟩;obtain⟨N,ak⟩: ∃a,a=x.s:=⟨_,rfl⟩;obtain⟨M,aj⟩: ∃a,a=x.l.length:=⟨_,rfl⟩;obtain⟨L,ai⟩: ∃a,a=x.k.length:=⟨_,rfl⟩;rw[←ao,←am,←ak,←aj,←ai]at R⊢;have aI:=dM R;have aJ:=dM ar;clear R ao am ak aj ai ar)|(refine nG rfl (some 21) rfl _ rfl _ sU ?_;intro aa w2 aq aF ap;have aw:=dM ap;have av:=dM aq;clear ap aq;try go_frame)|(refine nn rfl none rfl _ (.tmp 21) _ rfl aa 0 [.int .i64 Q,.int .i64 O,.string N,.slice A M Y,.slice K L X] rfl rfl _ _ aF (by simp[zeros5]) m8 (by intro v q;simp at q;rcases q with rfl|rfl|rfl|rfl|rfl<;>rfl) ?_;intro B Z ab;rw[nr _ _ (by simp[zeros5])]at Z;have F:=dM (yM aJ.out aw.out av.out ab);have aU:=dM (RepS.keeps (BS aw.out av.out ab) (fun _ h _=>h) _ _ aI.out);clear ab;have aQ:=Blk.below D F.out D.lt;have ad:=Blk.below E F.out E.lt;have aK:=dM (HB.out.trans (F.out.mono HB.out.size));try go_frame)|(refine nn rfl none rfl _ (.tmp 8) _ rfl W.heap.size 0 [.int .i64 0,.int .i64 0,.string ⟨#[]⟩,.slice none 0 0,.slice none 0 0] rfl rfl _ _ aQ (by simp[zeros5]) m8 (by intro v q;simp at q;rcases q with rfl|rfl|rfl|rfl|rfl<;>rfl) ?_;intro w9 ag V;rw[nr _ _ (by simp[zeros5])]at ag;have aB:=dM (fq aK.out V (eV aK.out) (by intro k U;injection U with U;omega));have aZ:=dM V;clear V;try go_frame))
     refine dW (v:= .tuple #[.agg #[.int .i64 0,.int .i64 0,.string ⟨#[]⟩,.slice none 0 0,.slice none 0 0],.int .i64 (p:Int),.int .i64 n,.int .i64 er]) (pN gB _ _ W.heap.size _ [.int .i64 0,.int .i64 0,.string ⟨#[]⟩,.slice none 0 0,.slice none 0 0] _ rfl ag ed rfl m8) rfl ?_
     rw[I.out]
     exact⟨_,rfl,RepS.zero _ _,aB.out⟩
   |false=>
    by_cases aL:c=44
    ·have bS:=bN.out (by omega)
     have bj:=dM (fun W:World=>Ef s ((k:Int)+1) (k+1) W (by omega) (by omega) (by omega))
     have aD:=BQ s.size (a_ s) (k+1) (by rw[ay.out];omega) (by rw[ay.out];omega)
     rw[ay.out]at aD
     have aM:Hid (nV (a_ s) val i left=s8 (a_ s) val false (nW (a_ s) val false f false) (d_ (a_ s) (k+1)) G ⟨#[]⟩ [] vs):=dM (aN.out.trans ((dN (by decide)).trans (dN (fun h=>h aL))))
     obtain⟨a1,bo⟩: ∃a,a=d_ (a_ s) (k+1):=⟨_,rfl⟩
     rw[←bo]at bj aD aM
     obtain⟨m1,m2⟩:=pY aL
     clear aN aL bo
     have aH:=dM (fun W:World=>HV.out.calls a1 G W (by omega) aW aV)
     have ax:=HV.out.moves a1 G (by omega) aW aV
     obtain⟨r,hr⟩:=yaa (val a1 G)
     have az:Hid (nV (a_ s) val i left=if r.2.2.2≠0 then(zeroJ,r.2.1,r.2.2.1,r.2.2.2)else if f_ (a_ s) r.2.1≠44∧f_ (a_ s) r.2.1≠93 then(zeroJ,r.2.1,r.2.2.1,50)else nW (a_ s) val false f false r.2.1 r.2.2.1 [] (vs++[r.1])):=dM (by
      rw[aM.out,hr];rfl)
     rw[←hr]at aH ax
     clear hr aM
     obtain⟨x,p,n,er⟩:=r
     by_cases he:er=0
     ·have a7:=ax he
      obtain⟨p0,p1,n0,n1⟩:a1<p∧p≤s.size∧0≤n∧n≤256:=a7
      have aA:=dM (fun W:World=>tl s p W (by omega) (by omega))
      have af:Hid (nV (a_ s) val i left=if f_ (a_ s) p≠44∧f_ (a_ s) p≠93 then(zeroJ,p,n,50)else nW (a_ s) val false f false p n [] (vs++[x])):=dM (az.out.trans (dN (fun h=>h he)))
      obtain⟨e1,e2⟩:=pY he
      obtain⟨c2,aP⟩: ∃c,c=f_ (a_ s) p:=⟨_,rfl⟩
      rw[←aP]at aA af
      clear he ax az aP
      go_wp2_with(first|(go_at_call 101;(with_reducible refine(HC.out _).mono ?_);rintro e w' ⟨rfl,rfl⟩)|(go_at_call 73;(with_reducible refine(bj.out _).mono ?_);rintro e w' ⟨rfl,rfl⟩)|(go_at_call 72;(with_reducible refine(aH.out _).mono ?_);rintro e w1 ⟨v,rfl,R,ar⟩;obtain⟨vk,A,Y,rfl,_,⟨K,X,rfl,_,_⟩,_,_⟩:=R.open;obtain⟨Q,ao⟩: ∃a,a=x.kind:=⟨_,rfl⟩;obtain⟨O,am⟩: ∃a,a=x.n:=⟨_,rfl⟩;obtain⟨N,ak⟩: ∃a,a=x.s:=⟨_,rfl⟩;obtain⟨M,aj⟩: ∃a,a=x.l.length:=⟨_,rfl⟩;obtain⟨L,ai⟩: ∃a,a=x.k.length:=⟨_,rfl⟩;rw[←ao,←am,←ak,←aj,←ai]at R⊢;have aI:=dM R;have aJ:=dM ar;clear R ao am ak aj ai ar)|(refine nG rfl (some 21) rfl _ rfl _ sU ?_;intro aa w2 aq aF ap;have aw:=dM ap;have av:=dM aq;clear ap aq;try go_frame)|(refine nn rfl none rfl _ (.tmp 21) _ rfl aa 0 [.int .i64 Q,.int .i64 O,.string N,.slice A M Y,.slice K L X] rfl rfl _ _ aF (by simp[zeros5]) m8 (by intro v q;simp at q;rcases q with rfl|rfl|rfl|rfl|rfl<;>rfl) ?_;intro B Z ab;rw[nr _ _ (by simp[zeros5])]at Z;have F:=dM (yM aJ.out aw.out av.out ab);have aU:=dM (RepS.keeps (BS aw.out av.out ab) (fun _ h _=>h) _ _ aI.out);clear ab;have aQ:=Blk.below D F.out D.lt;have ad:=Blk.below E F.out E.lt;have aK:=dM (HB.out.trans (F.out.mono HB.out.size));obtain⟨b0,b1,b2,b3,b4⟩:B.cell? ⟨W.heap.size+1,0,none⟩=some (.int .i64 4)∧B.cell? ⟨W.heap.size+1,1,none⟩=some (.int .i64 0)∧B.cell? ⟨W.heap.size+1,2,none⟩=some (.string ⟨#[]⟩)∧B.cell? ⟨W.heap.size+1,3,none⟩=some (vL)∧B.cell? ⟨W.heap.size+1,4,none⟩=some (.slice none 0 0):=⟨ad.cell 0,ad.cell 1,ad.cell 2,ad.cell 3,ad.cell 4⟩;obtain⟨d0,d1,d2,d3,d4⟩:B.cell? ⟨aa,0,none⟩=some (.int .i64 Q)∧B.cell? ⟨aa,1,none⟩=some (.int .i64 O)∧B.cell? ⟨aa,2,none⟩=some (.string N)∧B.cell? ⟨aa,3,none⟩=some (.slice A M Y)∧B.cell? ⟨aa,4,none⟩=some (.slice K L X):=⟨Z.cell 0,Z.cell 1,Z.cell 2,Z.cell 3,Z.cell 4⟩;try go_frame)|(at_builtin;refine gQ _ rfl (.tmp 121) (.tmp 123) 60 rfl (W.heap.size+2) 63 iJ (.agg #[.int .i64 0,.int .i64 0,.string ⟨#[]⟩,.slice none 0 0,.slice none 0 0]) 5 80 f9 hJ br bq bp rfl (by decide) vL vs.length _ rfl ((qY HL.out F.out).alloc _) ⟨B.heap.size,0,none⟩ 1 1 [.int .i64 Q,.int .i64 O,.string N,.slice A M Y,.slice K L X] rfl rfl ?bz ?bx (by decide) ?bw ?bv ?bu _ rfl ?_))
      case bz=>first|exact eU (cs:= #[.int .i64 Q,.int .i64 O,.string N,.slice A M Y,.slice K L X]) (eC B _)|skip
      case bx=>intro v q;simp at q;rcases q with rfl|rfl|rfl|rfl|rfl<;>rfl
      case bw=>unfold maxLen;omega
      case bv=>omega
      case bu=>have:=HI.out.2.2.2.2.2;have:=F.out.size;simp;omega
      intro gn bM w5 aO aE aR a8
      have H4:Below wr.heap.size wr (B.alloc (.cells #[.int .i64 Q,.int .i64 O,.string N,.slice A M Y,.slice K L X] 63)):=F.out.alloc F.out.size _
      have au:=dM (HI.out.add H4 (RepS.keeps (Keeps.grown (dO B (.cells #[.int .i64 Q,.int .i64 O,.string N,.slice A M Y,.slice K L X] 63) none) (fun b _ e=>by cases e)) (fun _ h _=>h) _ _ aU.out) aE rfl aO (aR.imp_right (fun h=>by first|exact ix h.symm|(simp at h⊢;omega))))
      have aG:=(ad.grownN (dO B (.cells #[.int .i64 Q,.int .i64 O,.string N,.slice A M Y,.slice K L X] 63) none)).grown aE (JR (fun k U=>(HL.out.lt k U).1) (by omega))
      have i3:w5.cell? ⟨W.heap.size+1,3,none⟩=some vL:=aG.cell 3
      have i4:=aG.frozen 3
      clear aO aE aR a8 H4 aG
      by_cases ae:c2=44
      ·obtain⟨g1,g2⟩:=pY ae
       have I:Hid (nV (a_ s) val i left=nW (a_ s) val false f false p n [] (vs++[x])):=dM (af.out.trans (dN (fun h=>h.1 ae)))
       clear ae af
       go_wp2_with(go_at_call 101;(with_reducible refine(aA.out _).mono ?_);rintro e w' ⟨rfl,rfl⟩)
       go_roundw
       case rel=>exact⟨p,f,n,false,vs++[x],_,_,rfl,rfl,rfl,p1,by omega,n0,n1,by rw[dS];simp;omega,I.out,au.out⟩
       case measure=>simp[intOf];omega
      ·obtain⟨g1,g2⟩:=o8 ae
       by_cases ah:c2=93
       ·obtain⟨g3,g4⟩:=pY ah
        have I:Hid (nV (a_ s) val i left=nW (a_ s) val false f false p n [] (vs++[x])):=dM (af.out.trans (dN (fun h=>h.2 ah)))
        clear ae ah af
        go_wp2_with(go_at_call 101;(with_reducible refine(aA.out _).mono ?_);rintro e w' ⟨rfl,rfl⟩)
        go_roundw
        case rel=>exact⟨p,f,n,false,vs++[x],_,_,rfl,rfl,rfl,p1,by omega,n0,n1,by rw[dS];simp;omega,I.out,au.out⟩
        case measure=>simp[intOf];omega
       ·obtain⟨g3,g4⟩:=o8 ah
        have I:Hid (nV (a_ s) val i left=(zeroJ,p,n,50)):=dM (af.out.trans (dP ⟨ae,ah⟩))
        clear ae ah af
        go_wp2_with(first|(go_at_call 101;(with_reducible refine(aA.out _).mono ?_);rintro e w' ⟨rfl,rfl⟩)|(refine nn rfl none rfl _ (.tmp 8) _ rfl W.heap.size 0 [.int .i64 0,.int .i64 0,.string ⟨#[]⟩,.slice none 0 0,.slice none 0 0] rfl rfl _ _ au.out.1 (by simp[zeros5]) m8 (by intro v q;simp at q;rcases q with rfl|rfl|rfl|rfl|rfl<;>rfl) ?_;intro w9 ag V;rw[nr _ _ (by simp[zeros5])]at ag;have aB:=dM (fq au.out.2.2.2.2.1 V (eV au.out.2.2.2.2.1) (by intro k U;injection U with U;omega));have aZ:=dM V;clear V;try go_frame))
        refine dW (v:= .tuple #[.agg #[.int .i64 0,.int .i64 0,.string ⟨#[]⟩,.slice none 0 0,.slice none 0 0],.int .i64 (p:Int),.int .i64 n,.int .i64 50]) (pN gB _ _ W.heap.size _ [.int .i64 0,.int .i64 0,.string ⟨#[]⟩,.slice none 0 0,.slice none 0 0] _ rfl ag ed rfl m8) rfl ?_
        rw[I.out]
        exact⟨_,rfl,RepS.zero _ _,aB.out⟩
     ·have I:Hid (nV (a_ s) val i left=(zeroJ,p,n,er)):=dM (az.out.trans (dP he))
      obtain⟨e1,e2⟩:=o8 he
      clear he ax az
      go_wp2_with(first|(go_at_call 101;(with_reducible refine(HC.out _).mono ?_);rintro e w' ⟨rfl,rfl⟩)|(go_at_call 73;(with_reducible refine(bj.out _).mono ?_);rintro e w' ⟨rfl,rfl⟩)|(go_at_call 72;(with_reducible refine(aH.out _).mono ?_);rintro e w1 ⟨v,rfl,R,ar⟩;obtain⟨vk,A,Y,rfl,_,⟨K,X,rfl,_,_⟩,_,_⟩:=R.open;obtain⟨Q,ao⟩: ∃a,a=x.kind:=⟨_,rfl⟩;obtain⟨O,am⟩: ∃a,a=x.n:=⟨_,rfl⟩;obtain⟨N,ak⟩: ∃a,a=x.s:=⟨_,rfl⟩;obtain⟨M,aj⟩: ∃a,a=x.l.length:=⟨_,rfl⟩;obtain⟨L,ai⟩: ∃a,a=x.k.length:=⟨_,rfl⟩;rw[←ao,←am,←ak,←aj,←ai]at R⊢;have aI:=dM R;have aJ:=dM ar;clear R ao am ak aj ai ar)|(refine nG rfl (some 21) rfl _ rfl _ sU ?_;intro aa w2 aq aF ap;have aw:=dM ap;have av:=dM aq;clear ap aq;try go_frame)|(refine nn rfl none rfl _ (.tmp 21) _ rfl aa 0 [.int .i64 Q,.int .i64 O,.string N,.slice A M Y,.slice K L X] rfl rfl _ _ aF (by simp[zeros5]) m8 (by intro v q;simp at q;rcases q with rfl|rfl|rfl|rfl|rfl<;>rfl) ?_;intro B Z ab;rw[nr _ _ (by simp[zeros5])]at Z;have F:=dM (yM aJ.out aw.out av.out ab);have aU:=dM (RepS.keeps (BS aw.out av.out ab) (fun _ h _=>h) _ _ aI.out);clear ab;have aQ:=Blk.below D F.out D.lt;have ad:=Blk.below E F.out E.lt;have aK:=dM (HB.out.trans (F.out.mono HB.out.size));try go_frame)|(refine nn rfl none rfl _ (.tmp 8) _ rfl W.heap.size 0 [.int .i64 0,.int .i64 0,.string ⟨#[]⟩,.slice none 0 0,.slice none 0 0] rfl rfl _ _ aQ (by simp[zeros5]) m8 (by intro v q;simp at q;rcases q with rfl|rfl|rfl|rfl|rfl<;>rfl) ?_;intro w9 ag V;rw[nr _ _ (by simp[zeros5])]at ag;have aB:=dM (fq aK.out V (eV aK.out) (by intro k U;injection U with U;omega));have aZ:=dM V;clear V;try go_frame))
      refine dW (v:= .tuple #[.agg #[.int .i64 0,.int .i64 0,.string ⟨#[]⟩,.slice none 0 0,.slice none 0 0],.int .i64 (p:Int),.int .i64 n,.int .i64 er]) (pN gB _ _ W.heap.size _ [.int .i64 0,.int .i64 0,.string ⟨#[]⟩,.slice none 0 0,.slice none 0 0] _ rfl ag ed rfl m8) rfl ?_
      rw[I.out]
      exact⟨_,rfl,RepS.zero _ _,aB.out⟩
    ·have I:Hid (nV (a_ s) val i left=(zeroJ,k,G,50)):=dM (aN.out.trans ((dN (by decide)).trans (dP aL)))
     obtain⟨m1,m2⟩:=o8 aL
     clear aN aL
     go_wp2_with(first|(go_at_call 101;(with_reducible refine(HC.out _).mono ?_);rintro e w' ⟨rfl,rfl⟩)|(refine nn rfl none rfl _ (.tmp 8) _ rfl W.heap.size 0 [.int .i64 0,.int .i64 0,.string ⟨#[]⟩,.slice none 0 0,.slice none 0 0] rfl rfl _ _ D (by simp[zeros5]) m8 (by intro v q;simp at q;rcases q with rfl|rfl|rfl|rfl|rfl<;>rfl) ?_;intro w9 ag V;rw[nr _ _ (by simp[zeros5])]at ag;have aB:=dM (fq HB.out V (eV HB.out) (by intro k U;injection U with U;omega));have aZ:=dM V;clear V;try go_frame))
     refine dW (v:= .tuple #[.agg #[.int .i64 0,.int .i64 0,.string ⟨#[]⟩,.slice none 0 0,.slice none 0 0],.int .i64 (k:Int),.int .i64 G,.int .i64 50]) (pN gB _ _ W.heap.size _ [.int .i64 0,.int .i64 0,.string ⟨#[]⟩,.slice none 0 0,.slice none 0 0] _ rfl ag ed rfl m8) rfl ?_
     rw[I.out]
     exact⟨_,rfl,RepS.zero _ _,aB.out⟩
theorem RepJ.form {W:World} {j:J} {v:Value} (h:RepJ W j v): ∃E D B A p c K q d,v= .agg #[.int .i64 E,.int .i64 D,.string B,.slice A p c,.slice K q d]:=by
 obtain⟨G,A,c,rfl,_,F,_,_⟩:=h.open
 obtain⟨K,d,rfl,_,_⟩:=F.open
 exact⟨_,_,_,_,_,_,_,_,_,rfl⟩
theorem Ke {P:Program} {D:Func} {p u1 u2:Tmp} {q:TypeId} (h:D.results= #[.cell p q,.tmp u1,.tmp u2]) (tmps:Array Value) (w:World) (g:Nat) (t:TypeId) (cs:List Value) (B:TypeDesc)
  (G:tmps.getD p undef= .pointer (some ⟨g,0,none⟩)) (M:Blk w g t cs)
  (E:P.underlying q=some B) (L:B.isRow=true) (hi:(P.info? q).map (·.size)=some cs.length):
  (results D tmps).run P w= .ok (.tuple #[.agg cs.toArray,tmps.getD u1 undef,tmps.getD u2 undef]) w:=by
 have F:tmps[p]?.getD undef= .pointer (some ⟨g,0,none⟩):=by simpa using G
 have I:=lC w g t q cs.toArray (0,0) B M E (by cases B<;>first|rfl|cases L) (by simpa using hi)
 simp only[results,h]
 simp[fF,Result.andThen,F,asAddr,I]
def LW (W:World) (r:J×Int×Int) (e:Ending) (w':World):Prop:=
 ∃v,e= .returned (.tuple #[v,.int .i64 r.2.1,.int .i64 r.2.2])∧RepS w' (fun b=>W.heap.size≤b) r.1 v∧Below W.heap.size W w'
theorem ua (s:ByteArray) (W:World) (hs:s.size≤9223372036854775807) (q:s.size≤4096→ ∀W:World,Calls prog 72 #[.string s,.int .i64 (d_ (a_ s) 0:Nat),.int .i64 1,.int .i64 256] W (sV W (nj (a_ s) 8 (d_ (a_ s) 0) 256))):
  Calls prog 41 #[.string s] W (LW W (zJ (a_ s))):=by
 have aA:=dM (j_ s)
 by_cases h:4096<s.size
 ·have HR:Hid (zJ (a_ s)=(zeroJ,2, -1)):=dM (by unfold zJ;rw[dP (by rw[aA.out];exact h)])
  have hI:(4096:Int)<(s.size:Int):=by omega
  clear q h
  go_enter mN,mJ
  go_wp2_with(first|(refine nG rfl (some 2) rfl _ rfl _ sU ?_;intro g2 wr X Z B;have L:=dM ((dU _ W).grown B (dQ _) (by simp));have ao:=dM X;clear B X;try go_frame)|(refine nn rfl none rfl _ (.tmp 2) _ rfl g2 0 [.int .i64 0,.int .i64 0,.string ⟨#[]⟩,.slice none 0 0,.slice none 0 0] rfl rfl _ _ Z (by simp[zeros5]) m8 (by intro v q;simp at q;rcases q with rfl|rfl|rfl|rfl|rfl<;>rfl) ?_;intro w9 Y G;rw[nr _ _ (by simp[zeros5])]at Y;have ap:=dM (fq L.out G (eV L.out) (by intro k U;injection U with U;have:=ao.out;omega));have ay:=dM G;clear G;try go_frame))
  refine dW (v:= .tuple #[.agg #[.int .i64 0,.int .i64 0,.string ⟨#[]⟩,.slice none 0 0,.slice none 0 0],.int .i64 2,.int .i64 (-1)]) (Ke lX _ _ g2 _ [.int .i64 0,.int .i64 0,.string ⟨#[]⟩,.slice none 0 0,.slice none 0 0] _ rfl Y ed rfl m8) rfl ?_
  rw[HR.out]
  exact⟨_,rfl,RepS.zero _ _,ap.out⟩
 ·have HS:=dM (fun W:World=>Ef s 0 0 W rfl (by omega) (by omega))
  have au:=dM (q (by omega))
  have hI: ¬(4096:Int)<(s.size:Int):=by omega
  have HP:Hid (zJ (a_ s)=if(nj (a_ s) 8 (d_ (a_ s) 0) 256).2.2.2≠0 then(zeroJ,(nj (a_ s) 8 (d_ (a_ s) 0) 256).2.2.2,((nj (a_ s) 8 (d_ (a_ s) 0) 256).2.1:Int))else if(nj (a_ s) 8 (d_ (a_ s) 0) 256).2.1<s.size then(zeroJ,50,((nj (a_ s) 8 (d_ (a_ s) 0) 256).2.1:Int))else((nj (a_ s) 8 (d_ (a_ s) 0) 256).1,0, -1)):=dM (by
   unfold zJ;rw[dN (by rw[aA.out];exact h),aA.out])
  obtain⟨k0,aB⟩: ∃k,k=d_ (a_ s) 0:=⟨_,rfl⟩
  rw[←aB]at HS au HP
  obtain⟨r,hr⟩:=yaa (nj (a_ s) 8 k0 256)
  rw[←hr]at au HP
  obtain⟨x,p,n,er⟩:=r
  clear q h aB hr
  by_cases he:er=0
  ·have ax:Hid (zJ (a_ s)=if p<s.size then(zeroJ,50,(p:Int))else(x,0, -1)):=dM (HP.out.trans (dN (fun h=>h he)))
   obtain⟨e1,e2⟩:=pY he
   clear HP
   by_cases hp:p<s.size
   ·have HR:Hid (zJ (a_ s)=(zeroJ,50,(p:Int))):=dM (ax.out.trans (dP hp))
    clear ax
    go_enter mN,mJ
    go_wp2_with(first|(refine nG rfl (some 2) rfl _ rfl _ sU ?_;intro g2 wr X Z B;have L:=dM ((dU _ W).grown B (dQ _) (by simp));have ao:=dM X;clear B X;try go_frame)|(go_at_call 73;(with_reducible refine(HS.out _).mono ?_);rintro e w' ⟨rfl,rfl⟩)|(go_at_call 72;(with_reducible refine(au.out _).mono ?_);rintro e w1 ⟨v,rfl,I,ah⟩;obtain⟨vk,A,c9,rfl,_,⟨K,d9,rfl,_,_⟩,_,_⟩:=I.open;obtain⟨R,af⟩: ∃a,a=x.kind:=⟨_,rfl⟩;obtain⟨Q,ae⟩: ∃a,a=x.n:=⟨_,rfl⟩;obtain⟨O,ad⟩: ∃a,a=x.s:=⟨_,rfl⟩;obtain⟨N,ab⟩: ∃a,a=x.l.length:=⟨_,rfl⟩;obtain⟨M,aa⟩: ∃a,a=x.k.length:=⟨_,rfl⟩;rw[←af,←ae,←ad,←ab,←aa]at I⊢;have av:=dM I;have aw:=dM ah;clear I af ae ad ab aa ah)|(refine nG rfl (some 5) rfl _ rfl _ sU ?_;intro E w2 ag aq B;have aj:=dM B;have ak:=dM ag;clear B ag;try go_frame)|(refine nn rfl none rfl _ (.tmp 5) _ rfl E 0 [.int .i64 R,.int .i64 Q,.string O,.slice A N c9,.slice K M d9] rfl rfl _ _ aq (by simp[zeros5]) m8 (by intro v q;simp at q;rcases q with rfl|rfl|rfl|rfl|rfl<;>rfl) ?_;intro F D V;rw[nr _ _ (by simp[zeros5])]at D;have ai:=dM (yM aw.out aj.out ak.out V);have az:=dM (RepS.keeps (BS aj.out ak.out V) (fun _ h _=>h) _ _ av.out);clear V;have ar:=Blk.below Z ai.out Z.lt;have am:=dM (L.out.trans (ai.out.mono L.out.size));obtain⟨d0,d1,d2,d3,d4⟩:F.cell? ⟨E,0,none⟩=some (.int .i64 R)∧F.cell? ⟨E,1,none⟩=some (.int .i64 Q)∧F.cell? ⟨E,2,none⟩=some (.string O)∧F.cell? ⟨E,3,none⟩=some (.slice A N c9)∧F.cell? ⟨E,4,none⟩=some (.slice K M d9):=⟨D.cell 0,D.cell 1,D.cell 2,D.cell 3,D.cell 4⟩;try go_frame)|(refine nn rfl none rfl _ (.tmp 2) _ rfl g2 0 [.int .i64 0,.int .i64 0,.string ⟨#[]⟩,.slice none 0 0,.slice none 0 0] rfl rfl _ _ ar (by simp[zeros5]) m8 (by intro v q;simp at q;rcases q with rfl|rfl|rfl|rfl|rfl<;>rfl) ?_;intro w9 Y G;rw[nr _ _ (by simp[zeros5])]at Y;have ap:=dM (fq am.out G (eV am.out) (by intro k U;injection U with U;have:=ao.out;omega));have ay:=dM G;clear G;try go_frame))
    refine dW (v:= .tuple #[.agg #[.int .i64 0,.int .i64 0,.string ⟨#[]⟩,.slice none 0 0,.slice none 0 0],.int .i64 50,.int .i64 (p:Int)]) (Ke lX _ _ g2 _ [.int .i64 0,.int .i64 0,.string ⟨#[]⟩,.slice none 0 0,.slice none 0 0] _ rfl Y ed rfl m8) rfl ?_
    rw[HR.out]
    exact⟨_,rfl,RepS.zero _ _,ap.out⟩
   ·have HR:Hid (zJ (a_ s)=(x,0, -1)):=dM (ax.out.trans (dN hp))
    clear ax
    go_enter mN,mJ
    go_wp2_with(first|(refine nG rfl (some 2) rfl _ rfl _ sU ?_;intro g2 wr X Z B;have L:=dM ((dU _ W).grown B (dQ _) (by simp));have ao:=dM X;clear B X;try go_frame)|(go_at_call 73;(with_reducible refine(HS.out _).mono ?_);rintro e w' ⟨rfl,rfl⟩)|(go_at_call 72;(with_reducible refine(au.out _).mono ?_);rintro e w1 ⟨v,rfl,I,ah⟩;obtain⟨vk,A,c9,rfl,_,⟨K,d9,rfl,_,_⟩,_,_⟩:=I.open;obtain⟨R,af⟩: ∃a,a=x.kind:=⟨_,rfl⟩;obtain⟨Q,ae⟩: ∃a,a=x.n:=⟨_,rfl⟩;obtain⟨O,ad⟩: ∃a,a=x.s:=⟨_,rfl⟩;obtain⟨N,ab⟩: ∃a,a=x.l.length:=⟨_,rfl⟩;obtain⟨M,aa⟩: ∃a,a=x.k.length:=⟨_,rfl⟩;rw[←af,←ae,←ad,←ab,←aa]at I⊢;have av:=dM I;have aw:=dM ah;clear I af ae ad ab aa ah)|(refine nG rfl (some 5) rfl _ rfl _ sU ?_;intro E w2 ag aq B;have aj:=dM B;have ak:=dM ag;clear B ag;try go_frame)|(refine nn rfl none rfl _ (.tmp 5) _ rfl E 0 [.int .i64 R,.int .i64 Q,.string O,.slice A N c9,.slice K M d9] rfl rfl _ _ aq (by simp[zeros5]) m8 (by intro v q;simp at q;rcases q with rfl|rfl|rfl|rfl|rfl<;>rfl) ?_;intro F D V;rw[nr _ _ (by simp[zeros5])]at D;have ai:=dM (yM aw.out aj.out ak.out V);have az:=dM (RepS.keeps (BS aj.out ak.out V) (fun _ h _=>h) _ _ av.out);clear V;have ar:=Blk.below Z ai.out Z.lt;have am:=dM (L.out.trans (ai.out.mono L.out.size));obtain⟨d0,d1,d2,d3,d4⟩:F.cell? ⟨E,0,none⟩=some (.int .i64 R)∧F.cell? ⟨E,1,none⟩=some (.int .i64 Q)∧F.cell? ⟨E,2,none⟩=some (.string O)∧F.cell? ⟨E,3,none⟩=some (.slice A N c9)∧F.cell? ⟨E,4,none⟩=some (.slice K M d9):=⟨D.cell 0,D.cell 1,D.cell 2,D.cell 3,D.cell 4⟩;try go_frame)|(refine nn rfl none rfl _ (.tmp 2) _ rfl g2 0 [.int .i64 R,.int .i64 Q,.string O,.slice A N c9,.slice K M d9] rfl rfl _ _ ar (by simp[zeros5]) m8 (by intro v q;simp at q;rcases q with rfl|rfl|rfl|rfl|rfl<;>rfl) ?_;intro w9 Y G;rw[nr _ _ (by simp[zeros5])]at Y;have ap:=dM (fq am.out G (eV am.out) (by intro k U;injection U with U;have:=ao.out;omega));have ay:=dM G;clear G;try go_frame))
    refine dW (v:= .tuple #[.agg #[.int .i64 R,.int .i64 Q,.string O,.slice A N c9,.slice K M d9],.int .i64 0,.int .i64 (-1)]) (Ke lX _ _ g2 _ [.int .i64 R,.int .i64 Q,.string O,.slice A N c9,.slice K M d9] _ rfl Y ed rfl m8) rfl ?_
    rw[HR.out]
    exact⟨_,rfl,RepS.keeps (Keeps.grown ay.out (fun b h e=>by injection e with e;have:=Z.lt;replace h:wr.heap.size≤b:=h;omega)) (fun b h _=>by have:=L.out.size;replace h:wr.heap.size≤b:=h;show W.heap.size≤b;omega) _ _ az.out,ap.out⟩
  ·have HR:Hid (zJ (a_ s)=(zeroJ,er,(p:Int))):=dM (HP.out.trans (dP he))
   obtain⟨e1,e2⟩:=o8 he
   clear HP he
   go_enter mN,mJ
   go_wp2_with(first|(refine nG rfl (some 2) rfl _ rfl _ sU ?_;intro g2 wr X Z B;have L:=dM ((dU _ W).grown B (dQ _) (by simp));have ao:=dM X;clear B X;try go_frame)|(go_at_call 73;(with_reducible refine(HS.out _).mono ?_);rintro e w' ⟨rfl,rfl⟩)|(go_at_call 72;(with_reducible refine(au.out _).mono ?_);rintro e w1 ⟨v,rfl,I,ah⟩;obtain⟨vk,A,c9,rfl,_,⟨K,d9,rfl,_,_⟩,_,_⟩:=I.open;obtain⟨R,af⟩: ∃a,a=x.kind:=⟨_,rfl⟩;obtain⟨Q,ae⟩: ∃a,a=x.n:=⟨_,rfl⟩;obtain⟨O,ad⟩: ∃a,a=x.s:=⟨_,rfl⟩;obtain⟨N,ab⟩: ∃a,a=x.l.length:=⟨_,rfl⟩;obtain⟨M,aa⟩: ∃a,a=x.k.length:=⟨_,rfl⟩;rw[←af,←ae,←ad,←ab,←aa]at I⊢;have av:=dM I;have aw:=dM ah;clear I af ae ad ab aa ah)|(refine nG rfl (some 5) rfl _ rfl _ sU ?_;intro E w2 ag aq B;have aj:=dM B;have ak:=dM ag;clear B ag;try go_frame)|(refine nn rfl none rfl _ (.tmp 5) _ rfl E 0 [.int .i64 R,.int .i64 Q,.string O,.slice A N c9,.slice K M d9] rfl rfl _ _ aq (by simp[zeros5]) m8 (by intro v q;simp at q;rcases q with rfl|rfl|rfl|rfl|rfl<;>rfl) ?_;intro F D V;rw[nr _ _ (by simp[zeros5])]at D;have ai:=dM (yM aw.out aj.out ak.out V);have az:=dM (RepS.keeps (BS aj.out ak.out V) (fun _ h _=>h) _ _ av.out);clear V;have ar:=Blk.below Z ai.out Z.lt;have am:=dM (L.out.trans (ai.out.mono L.out.size));obtain⟨d0,d1,d2,d3,d4⟩:F.cell? ⟨E,0,none⟩=some (.int .i64 R)∧F.cell? ⟨E,1,none⟩=some (.int .i64 Q)∧F.cell? ⟨E,2,none⟩=some (.string O)∧F.cell? ⟨E,3,none⟩=some (.slice A N c9)∧F.cell? ⟨E,4,none⟩=some (.slice K M d9):=⟨D.cell 0,D.cell 1,D.cell 2,D.cell 3,D.cell 4⟩;try go_frame)|(refine nn rfl none rfl _ (.tmp 2) _ rfl g2 0 [.int .i64 0,.int .i64 0,.string ⟨#[]⟩,.slice none 0 0,.slice none 0 0] rfl rfl _ _ ar (by simp[zeros5]) m8 (by intro v q;simp at q;rcases q with rfl|rfl|rfl|rfl|rfl<;>rfl) ?_;intro w9 Y G;rw[nr _ _ (by simp[zeros5])]at Y;have ap:=dM (fq am.out G (eV am.out) (by intro k U;injection U with U;have:=ao.out;omega));have ay:=dM G;clear G;try go_frame))
   refine dW (v:= .tuple #[.agg #[.int .i64 0,.int .i64 0,.string ⟨#[]⟩,.slice none 0 0,.slice none 0 0],.int .i64 er,.int .i64 (p:Int)]) (Ke lX _ _ g2 _ [.int .i64 0,.int .i64 0,.string ⟨#[]⟩,.slice none 0 0,.slice none 0 0] _ rfl Y ed rfl m8) rfl ?_
   rw[HR.out]
   exact⟨_,rfl,RepS.zero _ _,ap.out⟩
theorem IU:(prog.info? 9).map (fun i=>(i.zero,i.size,i.bytes))=some (some (.string ⟨#[]⟩),1,16):=by kernel_rfl
theorem IV:(prog.info? 63).map (fun i=>(i.zero,i.size,i.bytes))=some (some (.agg #[.int .i64 0,.int .i64 0,.string ⟨#[]⟩,.slice none 0 0,.slice none 0 0]),5,80):=by kernel_rfl
theorem qZ {w:World} {b U:Nat} {e F:TypeId} {s I n L:Nat} {v B:Value} {xs G:List Value} (h:w.ownsRow b e s v n xs) (N:w.ownsRow U F I B L G) (M:e≠F): ∀g,v.ownBlock=some g→B.ownBlock≠some g:=fun g E D=>by
 rcases h.2 with⟨rfl,_⟩|⟨g1,_,_,rfl,_,h1,_⟩
 ·simp[Value.ownBlock]at E
 ·rcases N.2 with⟨rfl,_⟩|⟨O,_,_,rfl,_,q,_⟩
  ·simp[Value.ownBlock]at D
  ·have R:g1=g:=by simpa[Value.ownBlock]using E
   have Q:O=g:=by simpa[Value.ownBlock]using D
   subst R
   subst Q
   rw[h1]at q
   injection q with q
   injection q with _ q _
   exact M q
def PutInv (W wr:World) (c3 c5:List Value) (S:Nat→Prop) (vs:List J) (xs:List Value) (vL:Value) (ks:List ByteArray) (vK:Value):Prop:=
 (Blk wr W.heap.size 63 c3∧Blk wr (W.heap.size+1) 63 c5∧Blk wr (W.heap.size+2) 63 zeros5∧Blk wr (W.heap.size+3) 63 [.int .i64 5,.int .i64 0,.string ⟨#[]⟩,vL,vK])∧
 (wr.ownsRow (W.heap.size+4) 63 5 vL vs.length xs∧FlatJ wr S vs xs)∧wr.ownsRow (W.heap.size+4) 9 1 vK ks.length (ks.map Value.string)∧Below W.heap.size W wr∧W.heap.size+4≤wr.heap.size
theorem Jw {v:Value} {a B:Nat} (h: ∀k,v.ownBlock=some k→B≤k) (q:a<B):some a≠v.ownBlock:=fun e=>by
 have:=h a e.symm;omega
theorem PutInv.addK {W wr O B:World} {c3 c5:List Value} {S:Nat→Prop} {vs:List J} {xs:List Value} {L Q q:Value} {ks:List ByteArray} {u:ByteArray} (hI:PutInv W wr c3 c5 S vs xs L ks Q) (hS: ∀b,S b→b<W.heap.size) (E:wr.grownBy O none) (I:O.grownBy B Q.ownBlock)
  {m:Nat} (hm:m=ks.length+1) (R:B.ownsRow (W.heap.size+4) 9 1 q m (ks.map Value.string++[.string u])):
  PutInv W (B.setCell ⟨W.heap.size+3,4,none⟩ q) c3 c5 S vs xs L (ks++[u]) q:=by
 subst hm
 obtain⟨⟨h3,h5,h6,h7⟩,⟨N,hf⟩,hK,hb,hsz⟩:=hI
 have M:=fun k D=>(hK.lt k D).1
 have X:=fun k D=>(N.lt k D).1
 have Y:=fun k D=>(R.lt k D).1
 have G:=ou B (W.heap.size+3) 4 q
 have g1: ∀{g:Nat} {t:TypeId} {cs:List Value},Blk wr g t cs→g<W.heap.size+4→g≠W.heap.size+3→Blk (B.setCell ⟨W.heap.size+3,4,none⟩ q) g t cs:=fun h hg Z=>
  ((h.grownN E).grown I (Jw M hg)).grown G (by simpa using Z)
 have V:Below W.heap.size W B:=(hb.grown E hb.size (by simp)).grown I (dV hb.size E.size) (fun k D=>by have:=M k D;omega)
 have U:Below W.heap.size W (B.setCell ⟨W.heap.size+3,4,none⟩ q):=V.grown G V.size (by simp)
 have ab:=((N.kept E (by cases F:L.ownBlock<;>simp)).kept I (by
  cases F:L.ownBlock with
  |none=>exact .inl rfl
  |some g=>exact .inr (fun e=>qZ N hK (by decide) g F e.symm)))
 refine⟨⟨g1 h3 (by omega) (by omega),g1 h5 (by omega) (by omega),g1 h6 (by omega) (by omega),?_⟩,⟨?_,?_⟩,?_,U,?_⟩
 ·have:=((h7.grownN E).grown I (Jw M (by omega))).setCell 4 q
  exact this
 ·refine ab.kept G ?_
  cases F:L.ownBlock with
  |none=>exact .inl rfl
  |some g=>exact .inr (fun e=>by injection e with e;have:=X g F;omega)
 ·refine hf.keeps (S:=S) (T:=S) ⟨?_,fun b aa _=> ?_⟩ (fun _ h _=>h)
  ·exact dV E.size (dV I.size G.size)
  ·have h1:=hS b aa
   exact(U.block b h1).trans (hb.block b h1).symm
 ·rw[dS,gl]
  refine lR R G ?_
  cases F:q.ownBlock with
  |none=>exact .inl rfl
  |some g=>exact .inr (fun e=>by injection e with e;have:=Y g F;omega)
 ·exact dV hsz (dV E.size (dV I.size G.size))
theorem PutInv.addL {W wr Q D:World} {c3 c5:List Value} {S:Nat→Prop} {vs:List J} {xs:List Value} {R L q:Value} {ks:List ByteArray} {x:J} {a0 a1 a2 a3 a4:Value} (hI:PutInv W wr c3 c5 S vs xs R ks L) (O: ∀b,S b→b<W.heap.size) (E:wr.grownBy Q none) (I:Q.grownBy D R.ownBlock)
  {m:Nat} (hm:m=vs.length+1) (U:D.ownsRow (W.heap.size+4) 63 5 q m (xs++[a0,a1,a2,a3,a4])) (hx:RepS W S x (.agg #[a0,a1,a2,a3,a4])):
  PutInv W (D.setCell ⟨W.heap.size+3,3,none⟩ q) c3 c5 S (vs++[x]) (xs++[a0,a1,a2,a3,a4]) q ks L:=by
 subst hm
 obtain⟨⟨h3,h5,h6,h7⟩,⟨Y,hf⟩,hK,hb,hsz⟩:=hI
 have Z:=fun k B=>(hK.lt k B).1
 have N:=fun k B=>(Y.lt k B).1
 have l':=fun k B=>(U.lt k B).1
 have G:=ou D (W.heap.size+3) 3 q
 have g1: ∀{g:Nat} {t:TypeId} {cs:List Value},Blk wr g t cs→g<W.heap.size+4→g≠W.heap.size+3→Blk (D.setCell ⟨W.heap.size+3,3,none⟩ q) g t cs:=fun h hg aa=>
  ((h.grownN E).grown I (Jw N hg)).grown G (by simpa using aa)
 have V:Below W.heap.size W D:=(hb.grown E hb.size (by simp)).grown I (dV hb.size E.size) (fun k B=>by have:=N k B;omega)
 have M:Below W.heap.size W (D.setCell ⟨W.heap.size+3,3,none⟩ q):=V.grown G V.size (by simp)
 have ab:=((hK.kept E (by cases F:L.ownBlock<;>simp)).kept I (by
  cases F:L.ownBlock with
  |none=>exact .inl rfl
  |some g=>exact .inr (fun e=>qZ hK Y (by decide) g F e.symm)))
 have B:Keeps S wr (D.setCell ⟨W.heap.size+3,3,none⟩ q):=⟨dV E.size (dV I.size G.size),fun b X _=>(M.block b (O b X)).trans (hb.block b (O b X)).symm⟩
 refine⟨⟨g1 h3 (by omega) (by omega),g1 h5 (by omega) (by omega),g1 h6 (by omega) (by omega),?_⟩,⟨?_,?_⟩,?_,M,?_⟩
 ·have:=((h7.grownN E).grown I (Jw N (by omega))).setCell 3 q
  exact this
 ·rw[dS]
  refine lR U G ?_
  cases F:q.ownBlock with
  |none=>exact .inl rfl
  |some g=>exact .inr (fun e=>by injection e with e;have:=l' g F;omega)
 ·exact FlatJ.snoc (RepS.keeps ⟨M.size,fun b h _=>M.block b (O b h)⟩ (fun _ h _=>h) _ _ hx) (hf.keeps B (fun _ h _=>h))
 ·refine ab.kept G ?_
  cases F:L.ownBlock with
  |none=>exact .inl rfl
  |some g=>exact .inr (fun e=>by injection e with e;have:=Z g F;omega)
 ·exact dV hsz (dV E.size (dV I.size G.size))
theorem F1 {w:World} {n:Nat} (h:w.heap.size=n) (cs:List Value) (t:TypeId):Blk (w.alloc (.cells cs.toArray t)) n t cs:=by
 subst h;exact eC w _
theorem sd (W:World) (c3 c5:List Value) (S:Nat→Prop):
  PutInv W ((((W.alloc (.cells c3.toArray 63)).alloc (.cells c5.toArray 63)).alloc (.cells zeros5.toArray 63)).alloc (.cells #[.int .i64 5,.int .i64 0,.string ⟨#[]⟩,.slice none 0 0,.slice none 0 0] 63)) c3 c5 S [] [] (.slice none 0 0) [] (.slice none 0 0):=by
 refine⟨⟨?_,?_,?_,F1 (by simp) [.int .i64 5,.int .i64 0,.string ⟨#[]⟩,.slice none 0 0,.slice none 0 0] _⟩,⟨ft _ _ _ _,rfl⟩,ft _ _ _ _,?_,by simp⟩
 ·exact(((F1 rfl c3 _).grownN (dO _ _ none)).grownN (dO _ _ none)).grownN (dO _ _ none)
 ·exact((F1 (by simp) c5 _).grownN (dO _ _ none)).grownN (dO _ _ none)
 ·exact(F1 (by simp) zeros5 _).grownN (dO _ _ none)
 ·exact((((dU _ _).alloc (dQ _) _).alloc (by simp) _).alloc (by simp;omega) _).alloc (by simp;omega) _
theorem ze {w:World} {b:Nat} {e:TypeId} {z n:Nat} {v:Value} {xs:List Value} (h:w.ownsRow b e z v n xs):v.oneCell'=true:=by
 rcases h.2 with⟨rfl,_⟩|⟨g,_,_,rfl,_⟩<;>rfl
structure PutCells (wr:World) (B:Nat) (kd n:Int) (s:ByteArray) (A:Option Addr) (q c:Nat) (K1:Option Addr) (d1:Nat) (x0 x1:Int) (x2:ByteArray) (A':Option Addr) (x3 c':Nat) (K2:Option Addr) (x4 d2:Nat) (vL vK:Value):Prop where
 e33:wr.cell? ⟨B,3,none⟩=some (.slice A q c)
 e34:wr.cell? ⟨B,4,none⟩=some (.slice K1 q d1)
 e50:wr.cell? ⟨B+1,0,none⟩=some (.int .i64 x0)
 e51:wr.cell? ⟨B+1,1,none⟩=some (.int .i64 x1)
 e52:wr.cell? ⟨B+1,2,none⟩=some (.string x2)
 e53:wr.cell? ⟨B+1,3,none⟩=some (.slice A' x3 c')
 e54:wr.cell? ⟨B+1,4,none⟩=some (.slice K2 x4 d2)
 e73:wr.cell? ⟨B+3,3,none⟩=some vL
 e74:wr.cell? ⟨B+3,4,none⟩=some vK
 f73:wr.frozen? ⟨B+3,3,none⟩=false
 f74:wr.frozen? ⟨B+3,4,none⟩=false
theorem PutInv.cells {W wr:World} {kd n L I:Int} {s G:ByteArray} {A X Y V:Option Addr} {q c R F U E Q:Nat} {S:Nat→Prop} {vs:List J} {xs:List Value} {M N:Value} {ks:List ByteArray}
  (h:PutInv W wr [.int .i64 kd,.int .i64 n,.string s,.slice A q c,.slice X q R] [.int .i64 L,.int .i64 I,.string G,.slice Y F U,.slice V E Q] S vs xs M ks N):
  PutCells wr W.heap.size kd n s A q c X R L I G Y F U V E Q M N:=by
 obtain⟨⟨O,B,Z,D⟩,_⟩:=h
 exact⟨O.cell 3,O.cell 4,B.cell 0,B.cell 1,B.cell 2,B.cell 3,B.cell 4,D.cell 3,D.cell 4,D.frozen 3,D.frozen 4⟩
theorem PutCells.grown {w w':World} {B:Nat} {row:Option Nat} {kd n L I:Int} {s G:ByteArray} {A Y Z X:Option Addr} {q c V F W E U:Nat} {M N:Value}
  (h:PutCells w B kd n s A q c Y V L I G Z F W X E U M N) (Q:w.grownBy w' row) (hr: ∀k,row=some k→B+4≤k):PutCells w' B kd n s A q c Y V L I G Z F W X E U M N:=by
 have O: ∀a,a<B+4→some a≠row:=fun a R e=>by have:=hr a e.symm;omega
 have g: ∀{a o:Nat} {v:Value},a<B+4→w.cell? ⟨a,o,none⟩=some v→w'.cell? ⟨a,o,none⟩=some v:=fun R D=>Q.cell D (O _ R)
 have f: ∀{o:Nat},w.frozen? ⟨B+3,o,none⟩=false→w'.frozen? ⟨B+3,o,none⟩=false:=fun {o} D=>by
  rw[World.frozen?_of_block (Q.block (B+3) (World.block_lt_of_cell? w ⟨B+3,3,none⟩ h.e73) (O _ (by omega)))];exact D
 exact⟨g (by omega) h.e33,g (by omega) h.e34,g (by omega) h.e50,g (by omega) h.e51,g (by omega) h.e52,g (by omega) h.e53,g (by omega) h.e54,g (by omega) h.e73,g (by omega) h.e74,f h.f73,f h.f74⟩
theorem PutInv.tells {W wr w':World} {c3 c5:List Value} {S:Nat→Prop} {vs:List J} {xs:List Value} {E F:Value} {ks:List ByteArray} (Q:PutInv W wr c3 c5 S vs xs E ks F) (O: ∀b,S b→b<W.heap.size) (B:wr.grownBy w' (some (W.heap.size+2)))
  (D:vs.length≤9223372036854775807) (q:ks.length≤9223372036854775807) (I: ∀t∈ks,t.size≤9223372036854775807):
  RepS w' (fun b=>S b∨W.heap.size≤b) (.mk 5 0 ⟨#[]⟩ vs ks) (.agg #[.int .i64 5,.int .i64 0,.string ⟨#[]⟩,E,F]):=by
 obtain⟨_,⟨G,L⟩,hK,hb,hsz⟩:=Q
 have kept: ∀{v:Value},(∀k,v.ownBlock=some k→W.heap.size+4≤k)→v.ownBlock=none∨v.ownBlock≠some (W.heap.size+2):=fun {v} h=>by
  cases D:v.ownBlock with
  |none=>exact .inl rfl
  |some g=>exact .inr (fun e=>by injection e with e;have:=h g D;omega)
 refine RepS.of_rows (G.kept B (kept fun k q=>(G.lt k q).1)) (L.keeps (S:=S) (T:=S) ⟨B.size,fun b N M=> ?_⟩ (fun _ h _=>h)) (hK.kept B (kept fun k q=>(hK.lt k q).1)) (fun b h _=> .inl h) (fun b h=> .inr (by omega)) (by decide) D q I
 exact B.block b M (by have:=O b N;simp;omega)
theorem D0 {w:World} {b:Nat} {e:TypeId} {z n m:Nat} {v:Value} {xs:List Value} (h:w.ownsRow b e z v n xs) (q:m=n):w.ownsRow b e z v m xs:=by subst q;exact h
end Go.Proofs.YtceddodfddlncaaGreatDoor
