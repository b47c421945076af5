
import Derived.Test.YtceddodfddlncaaGreatDoorJv01
set_option maxRecDepth 100000
set_option maxHeartbeats 16000000
set_option linter.all false
namespace Go.Proofs.YtceddodfddlncaaGreatDoor
open Go Go.RowKit Tryz
def fN:=@List.append_nil
def fQ:=@List.getElem?_append_left
def ia:=@Nat.sub_self
def it:=@List.set_append_right
def iF:=@List.getElem?_cons_zero
def jQ:=@Int.pow_succ
def j9:=@List.take_add_one
def kL:=@Nat.mul_one
def kN:=@Int.le_refl
def kR:=@Nat.mul_zero
def ml:=@List.getElem_take
def mK:=@List.drop_left'
def mL:=@List.take_left'
section
variable {P:Program} {w:World} {o:Oper} {a:Act} {K:Act→World→Prop} {Q:Exit→Act→World→Prop}
theorem M_ (q:TypeId) (z:List Value) (D:o.op= .alloc q) (hz:(P.info? q).map (·.zero)=some (some (.agg z.toArray)))
  (h: ∀g w',w.heap.size≤g→Blk w' g q z→w.grownBy w' none→K (a.put o.dst (.pointer (some ⟨g,0,none⟩))) w'):o.wp P a w K Q:=by
 have B:(zeroValue q).run P w= .ok (.agg z.toArray) w:=by
  cases hq:P.info? q with
  |none=>simp[hq]at hz
  |some i=>
   simp[hq]at hz
   simp[zeroValue,typeInfo,hq,hz]
 unfold Oper.wp execOp
 simp only[D,Instr.alloc,fF,B,jb]
 exact h w.heap.size (w.alloc (.cells z.toArray q)) (dQ _) (eC w _) (dO w _ none)
theorem Na (D:TypeId) (x y:Operand) (I:o.op= .store D x y) (g B:Nat) (q:List Value) (G:a.eval x= .pointer (some ⟨g,B,none⟩)) (hy:a.eval y= .agg q.toArray)
  (t:TypeId) (cs:List Value) (F:Blk w g t cs) (E:B+q.length≤cs.length) (hi:(P.info? D).map (·.size)=some q.length) (h1: ∀v∈q,v.oneCell'=true)
  (h: ∀w',Blk w' g t (splice cs B q)→w.grownBy w' (some g)→K (a.put o.dst undef) w'):o.wp P a w K Q:=
 wp_store_mid D x y I g B q.toArray G hy (F.there B _ (by simpa using E)) (by simpa using hi) (zx h1)
  (by have:=Iy g t q B cs w F E;exact h _ this.1 this.2)
end
def qm (l:List Int) (k:Nat):Int:=l.getD (k/8) 0/2^(7-k%8)%2
def nP (l:List Int) (at_:Nat):Nat→Int
 |0=>0
 |k+1=>2*nP l at_ k+qm l (at_+k)
def pa (l:List Int):Nat→List Int
 |0=>[]
 |j+1=>pa l j++[sg (nP l (6*j) 6)]
@[simp] theorem uF (l:List Int): ∀j,(pa l j).length=j
 |0=>rfl
 |j+1=>by simp[pa,uF l j]
theorem DA (l:List Int) (k:Nat):0≤qm l k∧qm l k≤1:=by unfold qm;omega
theorem yT (l:List Int) (a:Nat): ∀k,0≤nP l a k∧nP l a k<2^k
 |0=>⟨kN _,by show(0:Int)<2^0;decide⟩
 |k+1=>by
  have h:=yT l a k
  have q:=DA l (a+k)
  rw[nP,jQ]
  omega
theorem vN (a b c:Int) (r:List Int) (k:Nat):qm (a::b::c::r) (k+24)=qm r k:=by
 unfold qm
 rw[show(k+24)/8=k/8+3 by omega,show(k+24)%8=k%8 by omega]
 rfl
theorem Mu (a b c:Int) (r:List Int) (q:Nat): ∀k,nP (a::b::c::r) (q+24) k=nP r q k
 |0=>rfl
 |k+1=>by
  rw[nP,nP,Mu a b c r q k,show q+24+k=q+k+24 by omega,vN]
theorem Fk (l:List Int) (q:Nat):nP l q 6=32*qm l q+16*qm l (q+1)+8*qm l (q+2)+4*qm l (q+3)+2*qm l (q+4)+qm l (q+5):=by
 simp only[nP,kQ];omega
theorem KW (a b c:Int) (r:List Int) (D:0≤a∧a≤255) (B:0≤b∧b≤255) (q:0≤c∧c≤255):
  nP (a::b::c::r) 0 6=a/4∧nP (a::b::c::r) 6 6=a%4*16+b/16∧nP (a::b::c::r) 12 6=b%16*4+c/64∧nP (a::b::c::r) 18 6=c%64:=by
 refine⟨?_,?_,?_,?_⟩<;>(rw[Fk];simp only[qm,dR,Nat.reduceAdd,Nat.reduceDiv,Nat.reduceMod,Nat.reduceSub,iF,jc,gO,Int.reducePow];omega)
theorem qK (a b c:Int) (r:List Int) (D:0≤a∧a≤255) (B:0≤b∧b≤255) (q:0≤c∧c≤255):
  ∀j,pa (a::b::c::r) (j+4)=sg (a/4)::sg (a%4*16+b/16)::sg (b%16*4+c/64)::sg (c%64)::pa r j
 |0=>by
  obtain⟨h1,G,F,E⟩:=KW a b c r D B q
  simp only[pa,kR,kL,Nat.reduceMul,h1,G,F,E,fs,ff]
 |j+1=>by
  rw[show j+1+4=(j+4)+1 by omega,pa,qK a b c r D B q j,pa,show 6*(j+4)=6*j+24 by omega,Mu]
  rfl
theorem Bm (l:List Int) (k:Nat): ∀m,qm (l++List.replicate m 0) k=qm l k:=fun m=>by
 unfold qm
 congr 2
 simp only[dR]
 rcases eX (k/8) l.length with h|h
 ·rw[fQ h]
 ·rw[ez h,fJ h,jd]
  split<;>rfl
theorem KD (l:List Int) (a m:Nat): ∀k,nP (l++List.replicate m 0) a k=nP l a k
 |0=>rfl
 |k+1=>by rw[nP,nP,KD l a m k,Bm]
theorem ud: ∀(l:List Int),Hw l→pa l ((8*l.length+5)/6)=l_ l
 |[],_=>rfl
 |[a],h=>by
  have B:=h a (by simp)
  obtain⟨h1,E,_,_⟩:=KW a 0 0 [] B (by decide) (by decide)
  have e: ∀q,nP [a] q 6=nP [a,0,0] q 6:=fun q=>(KD [a] q 2 6).symm
  have F:(8*[a].length+5)/6=2:=by simp
  rw[F]
  simp only[pa,kR,kL,e,h1,E,fs,ff,l_]
  simp
 |[a,b],h=>by
  have B:=h a (by simp)
  have D:=h b (by simp)
  obtain⟨h1,E,L,_⟩:=KW a b 0 [] B D (by decide)
  have e: ∀q,nP [a,b] q 6=nP [a,b,0] q 6:=fun q=>(KD [a,b] q 1 6).symm
  have F:(8*[a,b].length+5)/6=3:=by simp
  rw[F]
  simp only[pa,kR,kL,Nat.reduceMul,e,h1,E,L,fs,ff,l_]
  simp
 |a::b::c::r,h=>by
  have B:=h a (by simp)
  have D:=h b (by simp)
  have I:=h c (by simp)
  have e:(8*(a::b::c::r).length+5)/6=(8*r.length+5)/6+4:=by simp only[eu];omega
  rw[e,qK a b c r B D I,ud r fun x G=>h x (by simp[G])]
  rfl
def oo (x y:Int):Int:=Int.ofNat (Nat.lor (Int.toNat (x%4294967296)) (Int.toNat (y%4294967296)))
theorem zf (x:Int):(BitVec.ofInt 32 x).toNat=(x%4294967296).toNat:=by
 rw[iU];rfl
theorem IN (x y:Int):bits .or .u32 x y=oo x y:=by
 have h:(BitVec.ofInt 32 x|||BitVec.ofInt 32 y).toNat=Nat.lor (x%4294967296).toNat (y%4294967296).toNat:=by rw[mM,zf,zf];rfl
 have q:=(BitVec.ofInt 32 x|||BitVec.ofInt 32 y).isLt
 show IntKind.u32.wrap ((BitVec.ofInt 32 x|||BitVec.ofInt 32 y).toNat:Int)=_
 rw[ko,oo,←h]
 show _=((BitVec.ofInt 32 x|||BitVec.ofInt 32 y).toNat:Int)
 omega
theorem EJ (x y:Int) (hy:0≤y∧y≤255):bits .or .u32 (x*256%4294967296) y=(x*256+y)%4294967296:=by
 rw[IN,oo]
 obtain⟨a,E⟩: ∃a:Nat,(a:Int)=x%16777216:=⟨(x%16777216).toNat,by omega⟩
 obtain⟨b,D⟩: ∃b:Nat,(b:Int)=y:=⟨y.toNat,by omega⟩
 have B:(x*256%4294967296%4294967296).toNat=a<<<8:=by rw[jH];omega
 have q:(y%4294967296).toNat=b:=by omega
 rw[B,q]
 have h:Nat.lor (a<<<8) b=a<<<8+b:=(jM (by omega:b<2^8) a).symm
 rw[h,jH]
 show((a*2^8+b:Nat):Int)=_
 omega
def qn (b:List Int) (t:Nat):Nat→Int
 |0=>0
 |i+1=>(qn b t i*256+b.getD (4*t+i) 0)%4294967296
def oB (b:List Int):Nat→List Int
 |0=>[]
 |n+1=>oB b n++[if n<16 then qn b n 4 else yI (oB b n) n]
@[simp] theorem mW (b:List Int): ∀n,(oB b n).length=n
 |0=>rfl
 |n+1=>by simp[oB,mW b n]
theorem zy (b:List Int) (D:Bytes b): ∀k j,j<64→(oa b k).getD j 0=if 4*j+4≤k then qn b j 4 else if 4*j<k then qn b j (k-4*j)else 0
 |0,j,hj=>by
  rw[dN (by omega),dN (by omega)]
  show(List.replicate 64 (0:Int)).getD j 0=0
  rw[dR,jd,dP hj];rfl
 |k+1,j,hj=>by
  have B:=zy b D k
  have G:=nU b k
  by_cases q:k/4=j
  ·have h1:(oa b (k+1)).getD j 0=bits .or .u32 ((oa b k).getD (k/4) 0*256%4294967296) (b.getD k 0):=by
    rw[oa,dR,iq,dP q,dP (by omega)];rfl
   have F:(oa b k).getD (k/4) 0=qn b j (k-4*j):=by
    rw[q,B j hj,dN (by omega)]
    by_cases h:4*j<k
    ·rw[dP h]
    ·rw[dN h,show k-4*j=0 by omega];rfl
   rw[h1,F,EJ _ _ (D k)]
   have E:(qn b j (k-4*j)*256+b.getD k 0)%4294967296=qn b j (k-4*j+1):=by
    rw[qn,show 4*j+(k-4*j)=k by omega]
   rw[E]
   by_cases h:4*j+4≤k+1
   ·rw[dP h,show k-4*j+1=4 by omega]
   ·rw[dN h,dP (by omega),show k+1-4*j=k-4*j+1 by omega]
  ·have h1:(oa b (k+1)).getD j 0=(oa b k).getD j 0:=by
    rw[oa,dR,iq,dN q,←dR]
   rw[h1,B j hj]
   by_cases h:4*j+4≤k
   ·rw[dP h,dP (by omega)]
   ·rw[dN h,dN (by omega),dN (by omega),dN (by omega)]
theorem MA (b:List Int): ∀n j,j<n→j<16→(oB b n).getD j 0=qn b j 4
 |n+1,j,hj,h16=>by
  rw[oB,dR]
  by_cases h:j<n
  ·rw[fQ (by rw[mW];exact h),←dR,MA b n j h h16]
  ·obtain rfl:j=n:=by omega
   rw[ez (by rw[mW];omega),mW,ia,dP h16];rfl
theorem xD (L:List Int) (t m:Nat) (B:16≤t) (q:t≤m):yI (L.take m) t=yI L t:=by
 have e: ∀i,i<m→(L.take m).getD i 0=L.getD i 0:=fun i hi=>by
  rw[dR,dR,gI,dP hi]
 rw[yI,yI,e _ (by omega),e _ (by omega),e _ (by omega),e _ (by omega)]
theorem Mr (b:List Int) (q:Bytes b): ∀n,n≤48→(oR b n).take (16+n)=oB b (16+n)
 |0,_=>by
  apply List.ext_getElem
  ·simp[oR]
  ·intro i h1 F
   simp only[mW]at F
   have B:=zy b q 64 i (by omega)
   rw[dP (by omega)]at B
   have E:=MA b 16 i (by omega) (by omega)
   have I:(oa b 64).getD i 0=(oa b 64)[i]'(by rw[nU];omega):=by simp[List.getD,show i<64 by omega]
   have G:(oB b 16).getD i 0=(oB b 16)[i]'(by rw[mW];omega):=by simp[List.getD,show i<16 by omega]
   rw[ml]
   show(oa b 64)[i]'(by rw[nU];omega)=(oB b 16)[i]'(by rw[mW];omega)
   rw[←I,←G,B,E]
 |n+1,h=>by
  have D:=Mr b q n (by omega)
  rw[oR,show 16+(n+1)=(16+n)+1 by omega,oB,dN (by omega),←D,xD _ _ _ (by omega) (dQ _),j9,iq,dP rfl,dP (by rw[ng];omega),List.take_set_of_le (dQ _)]
  rfl
theorem Af (b:List Int) (q:Bytes b):oR b 48=oB b 64:=by
 rw[←Mr b q 48 (dQ _),eo (by rw[ng];omega)]
def o6 (m:Int):List Int:=[oI m 7%256,oI m 6%256,oI m 5%256,oI m 4%256,oI m 3%256,oI m 2%256,oI m 1%256,oI m 0%256]
theorem y7 (L:List Int) (m:Int) (E:L.length=64):oC L m 8=L.take 56++o6 m:=by
 obtain⟨A,T,rfl,q,D⟩: ∃A T:List Int,L=A++T∧A.length=56∧T.length=8:=⟨L.take 56,L.drop 56,(gu 56 L).symm,by rw[ep];omega,by rw[eq];omega⟩
 have B: ∀(T:List Int) (i:Nat) (x:Int),(A++T).set (56+i) x=A++T.set i x:=fun T i x=>by
  rw[it _ _ (by omega),q,show 56+i-56=i by omega]
 rw[mL q]
 match T,D with
 |[t0,t1,t2,t3,t4,t5,t6,t7],_=>
  simp only[oC,B]
  rfl
def pI (n:Nat):Nat:=if 55<n%64 then 119-n%64 else 55-n%64
def oO (n:Nat):List Int:=128::(List.replicate (pI n) 0++o6 (n*8))
theorem uG (n:Nat):(oO n).length=pI n+9:=by simp[oO,o6]
theorem yu (B:List Int):pL (B++oO B.length) ((B.length+(pI B.length+9))/64)=pW B:=by
 obtain⟨n,E⟩:=yaa B.length
 obtain⟨q,Q⟩:=yaa (n/64)
 obtain⟨r,I⟩:=yaa (n%64)
 obtain⟨rest,G⟩: ∃l,l=B.drop (64*q):=⟨_,rfl⟩
 have F:rest.length=r:=by rw[G,eq,←E];omega
 have M:(B++oO n).drop (64*q)=rest++oO n:=by rw[G,gP (by rw[←E];omega)]
 have h0:pL (B++oO n) q=pL B q:=Kf _ _ _ (by rw[←E];omega)
 rw[pW,←E,←I,←Q,←G]
 by_cases h:55<r
 ·have D:pI n=119-r:=by rw[pI,←I,dP h]
  have L:(n+(pI n+9))/64=q+1+1:=by rw[D];omega
  have O:rest++oO n=nZ rest++(List.replicate 56 0++o6 (n*8)):=by
   rw[oO,nZ,D,F,show 119-r=(63-r)+56 by omega,←List.replicate_append_replicate]
   simp
  have N:((B++oO n).drop (64*q)).take 64=nZ rest:=by
   rw[M,O,iW (by rw[D3 (by omega)];omega),eo (by rw[D3 (by omega)];omega)]
  have R:((B++oO n).drop (64*(q+1))).take 64=oC (List.replicate 64 0) (n*8) 8:=by
   rw[show 64*(q+1)=64*q+64 by omega,←jK,M,O,mK (D3 (by omega)),y7 _ _ (by simp),List.take_replicate]
   exact eo (by simp[o6])
  rw[L,pL,pL,h0,N,R,dP (by omega)]
 ·have D:pI n=55-r:=by rw[pI,←I,dN h]
  have L:(n+(pI n+9))/64=q+1:=by rw[D];omega
  have N:((B++oO n).drop (64*q)).take 64=oC (nZ rest) (n*8) 8:=by
   rw[M,y7 _ _ (D3 (by omega))]
   have V:(nZ rest).take 56=rest++(128::List.replicate (55-r) 0):=by
    rw[nZ,F,List.take_append,F,eo (by omega),show 56-r=(55-r)+1 by omega,io,List.take_replicate,show min (55-r) (63-r)=55-r by omega]
   rw[V,oO,D]
   have U:rest++128::(List.replicate (55-r) 0++o6 (n*8))=(rest++128::List.replicate (55-r) 0)++o6 (n*8):=by simp
   rw[U]
   exact eo (by simp[o6];omega)
  rw[L,pL,h0,N,dN (by omega)]
def pB (s r:List Int):Nat→List Int
 |0=>[]
 |k+1=>pB s r k++[(r.getD k 0+s.getD k 0)%4294967296]
@[simp] theorem nT (s r:List Int): ∀k,(pB s r k).length=k
 |0=>rfl
 |k+1=>by simp[pB,nT s r k]
theorem ry (s r:List Int): ∀k,k≤s.length→oV s r k=pB s r k++s.drop k
 |0,_=>rfl
 |k+1,h=>by
  have B:=ry s r k (by omega)
  have q:s.drop k=s.getD k 0::s.drop (k+1):=by
   rw[eD (by omega:k<s.length)]
   simp[List.getD,show k<s.length by omega]
  have D:(pB s r k++s.drop k).getD k 0=s.getD k 0:=by
   rw[q,dR,ez (by rw[nT];omega),nT,ia];rfl
  rw[oV,B,D,it _ _ (by rw[nT];omega),nT,ia,q,pB]
  simp[Int.add_comm]
theorem CQ (s b:List Int) (B:s.length=8) (q:Bytes b):nI s b=pB s (pg (oB b 64) s 64) 8:=by
 rw[nI,Af b q,ry _ _ _ (by omega),fo (by omega),fN]
theorem Lt (s:ByteArray) (w:World):
  Calls prog 16 #[.string s] w fun e w'=>e= .returned (.bool (oG (a_ s)))∧w=w':=by
 have ae:=dM (j_ s)
 by_cases h1:s.size<1
 ·have W:(s.size:Int)<1:=by omega
  have B:Hid (oG (a_ s)=false):=dM (by unfold oG;rw[dT (by rw[j_];omega),iv])
  clear h1
  go_enter func16,ntmps16
  go_wp2
  go_ret
  exact⟨yL B.out.symm,rfl⟩
 ·have W: ¬(s.size:Int)<1:=by omega
  by_cases h2:s.size≤32
  ·have V: ¬(32:Int)<(s.size:Int):=by omega
   have HN:Hid (oG (a_ s)=(a_ s).all pu):=dM (by
    unfold oG
    rw[ec (by rw[j_];omega),lq])
   rw[HN.out]
   go_enter func16,ntmps16
   go_wp2
   go_loop [3] (fun v=> ∃k:Nat,k≤s.size∧v= .int .i64 (k:Int)∧(a_ s).all pu=((a_ s).drop k).all pu) (fun v=>s.size-(intOf v).toNat)
   case atStart=>exact⟨0,eN _,rfl,rfl⟩
   case round=>
    obtain⟨k,hk,rfl,Q⟩:=hrel
    have aa:=dM Q
    clear Q h1 W V HN
    by_cases R:k<s.size
    ·have U:=rp s k R
     have ag:(0:Int)≤(k:Int):=by omega
     have ah:=s[k].toNat_lt
     have G:Hid ((a_ s).all pu=(pu (s[k].toNat:Int)&&((a_ s).drop (k+1)).all pu)):=dM (by rw[aa.out,U,lj])
     clear U
     have ad:(((97≤(s[k].toNat:Int)∧(s[k].toNat:Int)≤122)∨(48≤(s[k].toNat:Int)∧(s[k].toNat:Int)≤57)∨(s[k].toNat:Int)=46∨(s[k].toNat:Int)=58∨(s[k].toNat:Int)=95∨(s[k].toNat:Int)=45))∨((¬97≤(s[k].toNat:Int)∨ ¬(s[k].toNat:Int)≤122)∧(¬48≤(s[k].toNat:Int)∨ ¬(s[k].toNat:Int)≤57)∧(s[k].toNat:Int)≠46∧(s[k].toNat:Int)≠58∧(s[k].toNat:Int)≠95∧(s[k].toNat:Int)≠45):=by omega
     rcases ad with hyes|⟨N,F,e1,Z,Y,X⟩
     ·have B:Hid ((a_ s).all pu=((a_ s).drop (k+1)).all pu):=dM (by rw[G.out];unfold pu;rw[ec hyes,lq])
      clear G
      rcases hyes with⟨a,b⟩|⟨a,b⟩|a|a|a|a
      ·go_wp2
       go_round
       case rel=>exact⟨k+1,by omega,by go_num,B.out⟩
       case measure=>simp[intOf];omega
      ·have a1: ¬97≤(s[k].toNat:Int):=by omega
       go_wp2
       go_round
       case rel=>exact⟨k+1,by omega,by go_num,B.out⟩
       case measure=>simp[intOf];omega
      ·have q:((s[k].toNat:Int)==46)=true:=by simp[a]
       have I:((s[k].toNat:Int)!=46)=false:=by rw[bne,q];rfl
       have a1: ¬97≤(s[k].toNat:Int):=by omega
       have a2: ¬48≤(s[k].toNat:Int):=by omega
       clear a
       go_wp2
       go_round
       case rel=>exact⟨k+1,by omega,by go_num,B.out⟩
       case measure=>simp[intOf];omega
      ·have q:((s[k].toNat:Int)==58)=true:=by simp[a]
       have I:((s[k].toNat:Int)!=58)=false:=by rw[bne,q];rfl
       have D:((s[k].toNat:Int)==46)=false:=by simp[a]
       have M:((s[k].toNat:Int)!=46)=true:=by rw[bne,D];rfl
       have a1: ¬97≤(s[k].toNat:Int):=by omega
       have a2:48≤(s[k].toNat:Int):=by omega
       have a3: ¬(s[k].toNat:Int)≤57:=by omega
       clear a
       go_wp2
       go_round
       case rel=>exact⟨k+1,by omega,by go_num,B.out⟩
       case measure=>simp[intOf];omega
      ·have q:((s[k].toNat:Int)==95)=true:=by simp[a]
       have I:((s[k].toNat:Int)!=95)=false:=by rw[bne,q];rfl
       have D:((s[k].toNat:Int)==46)=false:=by simp[a]
       have M:((s[k].toNat:Int)!=46)=true:=by rw[bne,D];rfl
       have E:((s[k].toNat:Int)==58)=false:=by simp[a]
       have O:((s[k].toNat:Int)!=58)=true:=by rw[bne,E];rfl
       have a1: ¬97≤(s[k].toNat:Int):=by omega
       have a2:48≤(s[k].toNat:Int):=by omega
       have a3: ¬(s[k].toNat:Int)≤57:=by omega
       clear a
       go_wp2
       go_round
       case rel=>exact⟨k+1,by omega,by go_num,B.out⟩
       case measure=>simp[intOf];omega
      ·have q:((s[k].toNat:Int)==45)=true:=by simp[a]
       have I:((s[k].toNat:Int)!=45)=false:=by rw[bne,q];rfl
       have D:((s[k].toNat:Int)==46)=false:=by simp[a]
       have M:((s[k].toNat:Int)!=46)=true:=by rw[bne,D];rfl
       have E:((s[k].toNat:Int)==58)=false:=by simp[a]
       have O:((s[k].toNat:Int)!=58)=true:=by rw[bne,E];rfl
       have L:((s[k].toNat:Int)==95)=false:=by simp[a]
       have ab:((s[k].toNat:Int)!=95)=true:=by rw[bne,L];rfl
       have a1: ¬97≤(s[k].toNat:Int):=by omega
       have a2: ¬48≤(s[k].toNat:Int):=by omega
       clear a
       go_wp2
       go_round
       case rel=>exact⟨k+1,by omega,by go_num,B.out⟩
       case measure=>simp[intOf];omega
     ·have B:Hid ((a_ s).all pu=false):=dM (by
       rw[G.out];unfold pu;rw[dT (by omega),iv])
      have D:((s[k].toNat:Int)==46)=false:=by simp[e1]
      have M:((s[k].toNat:Int)!=46)=true:=by rw[bne,D];rfl
      have E:((s[k].toNat:Int)==58)=false:=by simp[Z]
      have O:((s[k].toNat:Int)!=58)=true:=by rw[bne,E];rfl
      have L:((s[k].toNat:Int)==95)=false:=by simp[Y]
      have ab:((s[k].toNat:Int)!=95)=true:=by rw[bne,L];rfl
      have q4:((s[k].toNat:Int)==45)=false:=by simp[X]
      have af:((s[k].toNat:Int)!=45)=true:=by rw[bne,q4];rfl
      clear G e1 Z Y X
      rcases N with N|N
      ·rcases F with F|F
       ·go_wp2
        go_ret
        exact⟨yL B.out.symm,rfl⟩
       ·have k3:48≤(s[k].toNat:Int):=by omega
        go_wp2
        go_ret
        exact⟨yL B.out.symm,rfl⟩
      ·have k3:97≤(s[k].toNat:Int):=by omega
       have k4:48≤(s[k].toNat:Int):=by omega
       have k5: ¬(s[k].toNat:Int)≤57:=by omega
       clear F
       go_wp2
       go_ret
       exact⟨yL B.out.symm,rfl⟩
    ·obtain rfl:k=s.size:=by omega
     have B:Hid ((a_ s).all pu=true):=dM (by rw[aa.out,fB (by rw[ae.out];exact dQ _)];rfl)
     clear R
     go_wp2
     go_ret
     exact⟨yL B.out.symm,rfl⟩
  ·have V:(32:Int)<(s.size:Int):=by omega
   have B:Hid (oG (a_ s)=false):=dM (by unfold oG;rw[dT (by rw[j_];omega),iv])
   clear h1 h2
   go_enter func16,ntmps16
   go_wp2
   go_ret
   exact⟨yL B.out.symm,rfl⟩
def nK (l:List Int) (p:Nat):Int:=wo (l.getD (p/6) 0)/2^(5-p%6)%2
def zG (l:List Int):Nat→List Int
 |0=>[]
 |m+1=>zG l m++[nK l m]
@[simp] theorem nh (l:List Int): ∀m,(zG l m).length=m
 |0=>rfl
 |m+1=>by simp[zG,nh l m]
theorem KK (l:List Int): ∀(m p:Nat),p<m→(zG l m)[p]? =some (nK l p)
 |0,p,h=>absurd h (by omega)
 |m+1,p,h=>by
  rcases eX p m with h1|h1
  ·rw[zG,fQ (by rw[nh];exact h1)];exact KK l m p h1
  ·obtain rfl:p=m:=by omega
   rw[zG,ez (by rw[nh];exact dQ _),nh,ia];rfl
theorem sJ (l:List Int) (p:Nat):0≤nK l p∧nK l p≤1:=by unfold nK;omega
def ox (l:List Int) (p:Nat):Nat→Int
 |0=>0
 |k+1=>2*ox l p k+nK l (p+k)
theorem zz (l:List Int) (p:Nat): ∀k,0≤ox l p k∧ox l p k<2^k
 |0=>⟨kN _,by show(0:Int)<2^0;decide⟩
 |k+1=>by
  have h:=zz l p k
  have q:=sJ l (p+k)
  rw[ox,jQ]
  omega
def pp (l:List Int):Nat→List Int
 |0=>[]
 |j+1=>pp l j++[ox l (8*j) 8]
theorem Bl (a b c d:Int) (r:List Int) (p:Nat):nK (a::b::c::d::r) (p+24)=nK r p:=by
 unfold nK
 rw[show(p+24)/6=p/6+4 by omega,show(p+24)%6=p%6 by omega]
 rfl
theorem rz (a b c d:Int) (r:List Int) (p:Nat): ∀k,ox (a::b::c::d::r) (p+24) k=ox r p k
 |0=>rfl
 |k+1=>by rw[ox,ox,rz a b c d r p k,show p+24+k=p+k+24 by omega,Bl]
theorem yt (l:List Int) (p:Nat):ox l p 8=128*nK l p+64*nK l (p+1)+32*nK l (p+2)+16*nK l (p+3)+8*nK l (p+4)+4*nK l (p+5)+2*nK l (p+6)+nK l (p+7):=by
 simp only[ox,kQ];omega
theorem DI (a b:Int) (r:List Int) (B:0≤wo a∧wo a<64) (q:0≤wo b∧wo b<64):ox (a::b::r) 0 8=wo a*4+wo b/16:=by
 rw[yt]
 simp only[nK,dR,Nat.reduceAdd,Nat.reduceDiv,Nat.reduceMod,Nat.reduceSub,iF,jc,gO,Int.reducePow]
 omega
theorem FR (a b c:Int) (r:List Int) (_hb:0≤wo b∧wo b<64) (q:0≤wo c∧wo c<64):ox (a::b::c::r) 8 8=wo b%16*16+wo c/4:=by
 rw[yt]
 simp only[nK,dR,Nat.reduceAdd,Nat.reduceDiv,Nat.reduceMod,Nat.reduceSub,iF,jc,gO,Int.reducePow]
 omega
theorem GU (a b c d:Int) (r:List Int) (_hc:0≤wo c∧wo c<64) (q:0≤wo d∧wo d<64):ox (a::b::c::d::r) 16 8=wo c%4*64+wo d:=by
 rw[yt]
 simp only[nK,dR,Nat.reduceAdd,Nat.reduceDiv,Nat.reduceMod,Nat.reduceSub,iF,jc,gO,Int.reducePow]
 omega
theorem uq (a b c d:Int) (r:List Int) (E:0≤wo a∧wo a<64) (B:0≤wo b∧wo b<64) (q:0≤wo c∧wo c<64) (D:0≤wo d∧wo d<64):
  ∀j,pp (a::b::c::d::r) (j+3)=(wo a*4+wo b/16)::(wo b%16*16+wo c/4)::(wo c%4*64+wo d)::pp r j
 |0=>by
  simp only[pp,kR,kL,Nat.reduceMul,DI a b _ E B,FR a b c _ B q,GU a b c d _ q D,fs,ff]
 |j+1=>by
  rw[show j+1+3=(j+3)+1 by omega,pp,uq a b c d r E B q D j,pp,show 8*(j+3)=8*j+24 by omega,rz]
  rfl
theorem D9 {l:List Int} (h: ∀k,k<l.length→wo (l.getD k 0)≠64) (k:Nat) (q:k<l.length):0≤wo (l.getD k 0)∧wo (l.getD k 0)<64:=by
 have:=h k q
 have:=pK (l.getD k 0)
 omega
theorem ur: ∀(l:List Int),(∀k,k<l.length→wo (l.getD k 0)≠64)→pp l (l.length*6/8)=g_ l
 |[],_=>rfl
 |[a],_=>by
  have e:[a].length*6/8=0:=by simp
  rw[e];rfl
 |[a,b],h=>by
  have e:[a,b].length*6/8=1:=by simp
  have B:=D9 h 0 (by simp)
  have q:=D9 h 1 (by simp)
  rw[e]
  simp only[pp,kR,g_,DI a b [] B q,fs]
 |[a,b,c],h=>by
  have e:[a,b,c].length*6/8=2:=by simp
  have B:=D9 h 0 (by simp)
  have q:=D9 h 1 (by simp)
  have D:=D9 h 2 (by simp)
  rw[e]
  simp only[pp,kR,kL,g_,DI a b [c] B q,FR a b c [] q D,fs,ff]
 |a::b::c::d::r,h=>by
  have e:(a::b::c::d::r).length*6/8=r.length*6/8+3:=by simp only[eu];omega
  rw[e,uq a b c d r (D9 h 0 (by simp)) (D9 h 1 (by simp)) (D9 h 2 (by simp)) (D9 h 3 (by simp)),ur r fun k E=>h (k+4) (by simp;omega)]
  rfl
theorem AK (l:List Int) (h:l.length%4=2∨l.length%4=3) (hz: ∀p,l.length*6/8*8≤p→p<6*l.length→nK l p=0):yJ l=0:=by
 unfold yJ
 obtain⟨n,D⟩:=yaa l.length
 rw[←D]at h hz⊢
 have E:=pK (l.getD (n-1) 0)
 rcases h with h|h
 ·rw[dP h]
  have h0:=hz (6*(n-1)+2) (by omega) (by omega)
  have h1:=hz (6*(n-1)+3) (by omega) (by omega)
  have B:=hz (6*(n-1)+4) (by omega) (by omega)
  have q:=hz (6*(n-1)+5) (by omega) (by omega)
  unfold nK at h0 h1 B q
  rw[show(6*(n-1)+2)/6=n-1 by omega,show(6*(n-1)+2)%6=2 by omega]at h0
  rw[show(6*(n-1)+3)/6=n-1 by omega,show(6*(n-1)+3)%6=3 by omega]at h1
  rw[show(6*(n-1)+4)/6=n-1 by omega,show(6*(n-1)+4)%6=4 by omega]at B
  rw[show(6*(n-1)+5)/6=n-1 by omega,show(6*(n-1)+5)%6=5 by omega]at q
  simp only[Nat.reduceSub,Int.reducePow]at h0 h1 B q
  omega
 ·rw[dN (by omega)]
  have B:=hz (6*(n-1)+4) (by omega) (by omega)
  have q:=hz (6*(n-1)+5) (by omega) (by omega)
  unfold nK at B q
  rw[show(6*(n-1)+4)/6=n-1 by omega,show(6*(n-1)+4)%6=4 by omega]at B
  rw[show(6*(n-1)+5)/6=n-1 by omega,show(6*(n-1)+5)%6=5 by omega]at q
  simp only[Nat.reduceSub,Int.reducePow]at B q
  omega
theorem CX (l:List Int) (p:Nat) (h1:l.length*6/8*8≤p) (G:p<6*l.length) (h:nK l p≠0):l.length%4≠0∧(l.length%4≠1→yJ l≠0):=by
 obtain⟨n,E⟩:=yaa l.length
 unfold yJ
 rw[←E]at h1 G⊢
 have L:=pK (l.getD (n-1) 0)
 refine⟨by omega,fun I=> ?_⟩
 have D:p/6=n-1:=by omega
 unfold nK at h
 rw[D]at h
 have q:p%6=2∨p%6=3∨p%6=4∨p%6=5:=by omega
 by_cases B:n%4=2
 ·rw[dP B]
  rcases q with q|q|q|q<;>(rw[q]at h;simp only[Nat.reduceSub,Int.reducePow]at h;omega)
 ·rw[dN B]
  have F:p%6=4∨p%6=5:=by omega
  rcases F with q|q<;>(rw[q]at h;simp only[Nat.reduceSub,Int.reducePow]at h;omega)
theorem Ad (c n:Int) (h0:0≤n) (h1:n<64):sg n=c↔wo c=n:=by
 constructor
 ·rintro rfl;exact zI n ⟨h0,h1⟩
 ·intro h;rw[←h];exact ID c (by omega)
end Go.Proofs.YtceddodfddlncaaGreatDoor
