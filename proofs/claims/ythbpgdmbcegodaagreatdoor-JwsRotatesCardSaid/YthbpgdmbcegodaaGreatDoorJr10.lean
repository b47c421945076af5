
import Derived.Test.YthbpgdmbcegodaaGreatDoorJr04
set_option maxRecDepth 100000
set_option maxHeartbeats 16000000
set_option linter.all false
namespace Go.Proofs.YthbpgdmbcegodaaGreatDoor
open Go Go.RowKit
section
variable {P:Program} {w:World} {o:Oper} {a:Act} {K:Act→World→Prop} {Q:Exit→Act→World→Prop}
theorem zhz (ty:TypeId) (z:List Value) (ho:o.op= .alloc ty) (hz:(P.info? ty).map (·.zero)=some (some (.agg z.toArray)))
  (h: ∀g w',w.heap.size≤g→Blk w' g ty z→w.grownBy w' none→K (a.put o.dst (.pointer (some ⟨g,0,none⟩))) w'):o.wp P a w K Q:=by
 have hzero:(zeroValue ty).run P w= .ok (.agg z.toArray) w:=by
  cases hq:P.info? ty with
  |none=>simp[hq]at hz
  |some i=>
   simp[hq]at hz
   simp[zeroValue,typeInfo,hq,hz]
 unfold Oper.wp execOp
 simp only[ho,Instr.alloc,Sem.run_bind,hzero,Result.andThen_ok]
 exact h w.heap.size (w.alloc (.cells z.toArray ty)) (Nat.le_refl _) (heap_alloc_new w _) (World.grownBy_alloc w _ none)
theorem zfc (ty:TypeId) (x y:Operand) (ho:o.op= .store ty x y) (g off:Nat) (ds:List Value) (hx:a.eval x= .pointer (some ⟨g,off,none⟩)) (hy:a.eval y= .agg ds.toArray)
  (t:TypeId) (cs:List Value) (hb:Blk w g t cs) (hl:off+ds.length≤cs.length) (hi:(P.info? ty).map (·.size)=some ds.length) (h1: ∀v∈ds,v.oneCell'=true)
  (h: ∀w',Blk w' g t (splice cs off ds)→w.grownBy w' (some g)→K (a.put o.dst undef) w'):o.wp P a w K Q:=
 wp_store_mid ty x y ho g off ds.toArray hx hy (hb.there off _ (by simpa using hl)) (by simpa using hi) (all_one h1)
  (by have:=zcs g t ds off cs w hb hl;exact h _ this.1 this.2)
end
def zeJ (l:List Int) (k:Nat):Int:=l.getD (k/8) 0/2^(7-k%8)%2
def sixk (l:List Int) (at_:Nat):Nat→Int
 |0=>0
 |k+1=>2*sixk l at_ k+zeJ l (at_+k)
def refL (l:List Int):Nat→List Int
 |0=>[]
 |j+1=>refL l j++[sg (sixk l (6*j) 6)]
@[simp] theorem length_refL (l:List Int): ∀j,(refL l j).length=j
 |0=>rfl
 |j+1=>by simp[refL,length_refL l j]
theorem bitAt_bd (l:List Int) (k:Nat):0≤zeJ l k∧zeJ l k≤1:=by unfold zeJ;omega
theorem sixk_bd (l:List Int) (a:Nat): ∀k,0≤sixk l a k∧sixk l a k<2^k
 |0=>⟨Int.le_refl _,by show(0:Int)<2^0;decide⟩
 |k+1=>by
  have h:=sixk_bd l a k
  have hb:=bitAt_bd l (a+k)
  rw[sixk,Int.pow_succ]
  omega
theorem bitAt_three (a b c:Int) (r:List Int) (k:Nat):zeJ (a::b::c::r) (k+24)=zeJ r k:=by
 unfold zeJ
 rw[show(k+24)/8=k/8+3 by omega,show(k+24)%8=k%8 by omega]
 rfl
theorem zlV (a b c:Int) (r:List Int) (at_:Nat): ∀k,sixk (a::b::c::r) (at_+24) k=sixk r at_ k
 |0=>rfl
 |k+1=>by
  rw[sixk,sixk,zlV a b c r at_ k,show at_+24+k=at_+k+24 by omega,bitAt_three]
theorem bits_of (l:List Int) (at_:Nat):sixk l at_ 6=32*zeJ l at_+16*zeJ l (at_+1)+8*zeJ l (at_+2)+4*zeJ l (at_+3)+2*zeJ l (at_+4)+zeJ l (at_+5):=by
 simp only[sixk,Nat.add_zero];omega
theorem zjf (a b c:Int) (r:List Int) (ha:0≤a∧a≤255) (hb:0≤b∧b≤255) (hc:0≤c∧c≤255):
  sixk (a::b::c::r) 0 6=a/4∧sixk (a::b::c::r) 6 6=a%4*16+b/16∧sixk (a::b::c::r) 12 6=b%16*4+c/64∧sixk (a::b::c::r) 18 6=c%64:=by
 refine⟨?_,?_,?_,?_⟩<;>(rw[bits_of];simp only[zeJ,List.getD_eq_getElem?_getD,Nat.reduceAdd,Nat.reduceDiv,Nat.reduceMod,Nat.reduceSub,List.getElem?_cons_zero,List.getElem?_cons_succ,Option.getD_some,Int.reducePow];omega)
theorem ref_first (a b c:Int) (r:List Int) (ha:0≤a∧a≤255) (hb:0≤b∧b≤255) (hc:0≤c∧c≤255):
  ∀j,refL (a::b::c::r) (j+4)=sg (a/4)::sg (a%4*16+b/16)::sg (b%16*4+c/64)::sg (c%64)::refL r j
 |0=>by
  obtain⟨h1,h2,h3,h4⟩:=zjf a b c r ha hb hc
  simp only[refL,Nat.mul_zero,Nat.mul_one,Nat.reduceMul,h1,h2,h3,h4,List.nil_append,List.cons_append]
 |j+1=>by
  rw[show j+1+4=(j+4)+1 by omega,refL,ref_first a b c r ha hb hc j,refL,show 6*(j+4)=6*j+24 by omega,zlV]
  rfl
theorem bitAt_pad (l:List Int) (k:Nat): ∀m,zeJ (l++List.replicate m 0) k=zeJ l k:=fun m=>by
 unfold zeJ
 congr 2
 simp only[List.getD_eq_getElem?_getD]
 rcases Nat.lt_or_ge (k/8) l.length with h|h
 ·rw[List.getElem?_append_left h]
 ·rw[List.getElem?_append_right h,List.getElem?_eq_none h,List.getElem?_replicate]
  split<;>rfl
theorem zmq (l:List Int) (a m:Nat): ∀k,sixk (l++List.replicate m 0) a k=sixk l a k
 |0=>rfl
 |k+1=>by rw[sixk,sixk,zmq l a m k,bitAt_pad]
theorem refL_enc: ∀(l:List Int),Byt l→refL l ((8*l.length+5)/6)=encL l
 |[],_=>rfl
 |[a],h=>by
  have ha:=h a (by simp)
  obtain⟨h1,h2,_,_⟩:=zjf a 0 0 [] ha (by decide) (by decide)
  have e: ∀at_,sixk [a] at_ 6=sixk [a,0,0] at_ 6:=fun at_=>(zmq [a] at_ 2 6).symm
  have e0:(8*[a].length+5)/6=2:=by simp
  rw[e0]
  simp only[refL,Nat.mul_zero,Nat.mul_one,e,h1,h2,List.nil_append,List.cons_append,encL]
  simp
 |[a,b],h=>by
  have ha:=h a (by simp)
  have hb:=h b (by simp)
  obtain⟨h1,h2,h3,_⟩:=zjf a b 0 [] ha hb (by decide)
  have e: ∀at_,sixk [a,b] at_ 6=sixk [a,b,0] at_ 6:=fun at_=>(zmq [a,b] at_ 1 6).symm
  have e0:(8*[a,b].length+5)/6=3:=by simp
  rw[e0]
  simp only[refL,Nat.mul_zero,Nat.mul_one,Nat.reduceMul,e,h1,h2,h3,List.nil_append,List.cons_append,encL]
  simp
 |a::b::c::r,h=>by
  have ha:=h a (by simp)
  have hb:=h b (by simp)
  have hc:=h c (by simp)
  have e:(8*(a::b::c::r).length+5)/6=(8*r.length+5)/6+4:=by simp only[List.length_cons];omega
  rw[e,ref_first a b c r ha hb hc,refL_enc r fun x hx=>h x (by simp[hx])]
  rfl
def oo (x y:Int):Int:=Int.ofNat (Nat.lor (Int.toNat (x%4294967296)) (Int.toNat (y%4294967296)))
theorem ofInt32 (x:Int):(BitVec.ofInt 32 x).toNat=(x%4294967296).toNat:=by
 rw[BitVec.toNat_ofInt];rfl
theorem oo_eq (x y:Int):bits .or .u32 x y=oo x y:=by
 have h:(BitVec.ofInt 32 x|||BitVec.ofInt 32 y).toNat=Nat.lor (x%4294967296).toNat (y%4294967296).toNat:=by rw[BitVec.toNat_or,ofInt32,ofInt32];rfl
 have hl:=(BitVec.ofInt 32 x|||BitVec.ofInt 32 y).isLt
 show IntKind.u32.wrap ((BitVec.ofInt 32 x|||BitVec.ofInt 32 y).toNat:Int)=_
 rw[IntKind.wrap_u32,oo,←h]
 show _=((BitVec.ofInt 32 x|||BitVec.ofInt 32 y).toNat:Int)
 omega
theorem or_byte (x y:Int) (hy:0≤y∧y≤255):bits .or .u32 (x*256%4294967296) y=(x*256+y)%4294967296:=by
 rw[oo_eq,oo]
 obtain⟨a,ha⟩: ∃a:Nat,(a:Int)=x%16777216:=⟨(x%16777216).toNat,by omega⟩
 obtain⟨b,hb⟩: ∃b:Nat,(b:Int)=y:=⟨y.toNat,by omega⟩
 have e1:(x*256%4294967296%4294967296).toNat=a<<<8:=by rw[Nat.shiftLeft_eq];omega
 have e2:(y%4294967296).toNat=b:=by omega
 rw[e1,e2]
 have h:Nat.lor (a<<<8) b=a<<<8+b:=(Nat.shiftLeft_add_eq_or_of_lt (by omega:b<2^8) a).symm
 rw[h,Nat.shiftLeft_eq]
 show((a*2^8+b:Nat):Int)=_
 omega
def zeQ (b:List Int) (t:Nat):Nat→Int
 |0=>0
 |i+1=>(zeQ b t i*256+b.getD (4*t+i) 0)%4294967296
def zau (b:List Int):Nat→List Int
 |0=>[]
 |n+1=>zau b n++[if n<16 then zeQ b n 4 else zgz (zau b n) n]
@[simp] theorem length_wordsR (b:List Int): ∀n,(zau b n).length=n
 |0=>rfl
 |n+1=>by simp[zau,length_wordsR b n]
theorem accs_at (b:List Int) (hb:Bytes b): ∀k j,j<64→(accs b k).getD j 0=if 4*j+4≤k then zeQ b j 4 else if 4*j<k then zeQ b j (k-4*j)else 0
 |0,j,hj=>by
  rw[if_neg (by omega),if_neg (by omega)]
  show(List.replicate 64 (0:Int)).getD j 0=0
  rw[List.getD_eq_getElem?_getD,List.getElem?_replicate,if_pos hj];rfl
 |k+1,j,hj=>by
  have ih:=accs_at b hb k
  have hl:=length_accs b k
  by_cases hjk:k/4=j
  ·have h1:(accs b (k+1)).getD j 0=bits .or .u32 ((accs b k).getD (k/4) 0*256%4294967296) (b.getD k 0):=by
    rw[accs,List.getD_eq_getElem?_getD,List.getElem?_set,if_pos hjk,if_pos (by omega)];rfl
   have h2:(accs b k).getD (k/4) 0=zeQ b j (k-4*j):=by
    rw[hjk,ih j hj,if_neg (by omega)]
    by_cases h:4*j<k
    ·rw[if_pos h]
    ·rw[if_neg h,show k-4*j=0 by omega];rfl
   rw[h1,h2,or_byte _ _ (hb k)]
   have h3:(zeQ b j (k-4*j)*256+b.getD k 0)%4294967296=zeQ b j (k-4*j+1):=by
    rw[zeQ,show 4*j+(k-4*j)=k by omega]
   rw[h3]
   by_cases h:4*j+4≤k+1
   ·rw[if_pos h,show k-4*j+1=4 by omega]
   ·rw[if_neg h,if_pos (by omega),show k+1-4*j=k-4*j+1 by omega]
  ·have h1:(accs b (k+1)).getD j 0=(accs b k).getD j 0:=by
    rw[accs,List.getD_eq_getElem?_getD,List.getElem?_set,if_neg hjk,←List.getD_eq_getElem?_getD]
   rw[h1,ih j hj]
   by_cases h:4*j+4≤k
   ·rw[if_pos h,if_pos (by omega)]
   ·rw[if_neg h,if_neg (by omega),if_neg (by omega),if_neg (by omega)]
theorem zkz (b:List Int): ∀n j,j<n→j<16→(zau b n).getD j 0=zeQ b j 4
 |n+1,j,hj,h16=>by
  rw[zau,List.getD_eq_getElem?_getD]
  by_cases h:j<n
  ·rw[List.getElem?_append_left (by rw[length_wordsR];exact h),←List.getD_eq_getElem?_getD,zkz b n j h h16]
  ·obtain rfl:j=n:=by omega
   rw[List.getElem?_append_right (by rw[length_wordsR];omega),length_wordsR,Nat.sub_self,if_pos h16];rfl
theorem nextw_take (L:List Int) (t m:Nat) (h16:16≤t) (hm:t≤m):zgz (L.take m) t=zgz L t:=by
 have e: ∀i,i<m→(L.take m).getD i 0=L.getD i 0:=fun i hi=>by
  rw[List.getD_eq_getElem?_getD,List.getD_eq_getElem?_getD,List.getElem?_take,if_pos hi]
 rw[zgz,zgz,e _ (by omega),e _ (by omega),e _ (by omega),e _ (by omega)]
theorem zla (b:List Int) (hb:Bytes b): ∀n,n≤48→(zbv b n).take (16+n)=zau b (16+n)
 |0,_=>by
  apply List.ext_getElem
  ·simp[zbv]
  ·intro i h1 h2
   simp only[length_wordsR]at h2
   have ha:=accs_at b hb 64 i (by omega)
   rw[if_pos (by omega)]at ha
   have hw:=zkz b 16 i (by omega) (by omega)
   have e1:(accs b 64).getD i 0=(accs b 64)[i]'(by rw[length_accs];omega):=by simp[List.getD,show i<64 by omega]
   have e2:(zau b 16).getD i 0=(zau b 16)[i]'(by rw[length_wordsR];omega):=by simp[List.getD,show i<16 by omega]
   rw[List.getElem_take]
   show(accs b 64)[i]'(by rw[length_accs];omega)=(zau b 16)[i]'(by rw[length_wordsR];omega)
   rw[←e1,←e2,ha,hw]
 |n+1,h=>by
  have ih:=zla b hb n (by omega)
  rw[zbv,show 16+(n+1)=(16+n)+1 by omega,zau,if_neg (by omega),←ih,nextw_take _ _ _ (by omega) (Nat.le_refl _),List.take_add_one,List.getElem?_set,if_pos rfl,if_pos (by rw[length_sched];omega),List.take_set_of_le (Nat.le_refl _)]
  rfl
theorem sched_ref (b:List Int) (hb:Bytes b):zbv b 48=zau b 64:=by
 rw[←zla b hb 48 (Nat.le_refl _),List.take_of_length_le (by rw[length_sched];omega)]
def cntR (m:Int):List Int:=[shr8 m 7%256,shr8 m 6%256,shr8 m 5%256,shr8 m 4%256,shr8 m 3%256,shr8 m 2%256,shr8 m 1%256,shr8 m 0%256]
theorem putC_eq (L:List Int) (m:Int) (hL:L.length=64):putC L m 8=L.take 56++cntR m:=by
 obtain⟨A,T,rfl,hA,hT⟩: ∃A T:List Int,L=A++T∧A.length=56∧T.length=8:=⟨L.take 56,L.drop 56,(List.take_append_drop 56 L).symm,by rw[List.length_take];omega,by rw[List.length_drop];omega⟩
 have hs: ∀(T:List Int) (i:Nat) (x:Int),(A++T).set (56+i) x=A++T.set i x:=fun T i x=>by
  rw[List.set_append_right _ _ (by omega),hA,show 56+i-56=i by omega]
 rw[List.take_left' hA]
 match T,hT with
 |[t0,t1,t2,t3,t4,t5,t6,t7],_=>
  simp only[putC,hs]
  rfl
def gapR (n:Nat):Nat:=if 55<n%64 then 119-n%64 else 55-n%64
def padR (n:Nat):List Int:=128::(List.replicate (gapR n) 0++cntR (n*8))
theorem length_padR (n:Nat):(padR n).length=gapR n+9:=by simp[padR,cntR]
theorem absorb_pad (bs:List Int):zbx (bs++padR bs.length) ((bs.length+(gapR bs.length+9))/64)=finL bs:=by
 obtain⟨n,hn⟩: ∃n,n=bs.length:=⟨_,rfl⟩
 obtain⟨q,hq⟩: ∃q,q=n/64:=⟨_,rfl⟩
 obtain⟨r,hr⟩: ∃r,r=n%64:=⟨_,rfl⟩
 obtain⟨rest,hrest⟩: ∃l,l=bs.drop (64*q):=⟨_,rfl⟩
 have hrl:rest.length=r:=by rw[hrest,List.length_drop,←hn];omega
 have hd:(bs++padR n).drop (64*q)=rest++padR n:=by rw[hrest,List.drop_append_of_le_length (by rw[←hn];omega)]
 have h0:zbx (bs++padR n) q=zbx bs q:=zdn _ _ _ (by rw[←hn];omega)
 rw[finL,←hn,←hr,←hq,←hrest]
 by_cases h:55<r
 ·have hg:gapR n=119-r:=by rw[gapR,←hr,if_pos h]
  have hk:(n+(gapR n+9))/64=q+1+1:=by rw[hg];omega
  have hpad:rest++padR n=padB rest++(List.replicate 56 0++cntR (n*8)):=by
   rw[padR,padB,hg,hrl,show 119-r=(63-r)+56 by omega,←List.replicate_append_replicate]
   simp
  have hb1:((bs++padR n).drop (64*q)).take 64=padB rest:=by
   rw[hd,hpad,List.take_append_of_le_length (by rw[zbr (by omega)];omega),List.take_of_length_le (by rw[zbr (by omega)];omega)]
  have hb2:((bs++padR n).drop (64*(q+1))).take 64=putC (List.replicate 64 0) (n*8) 8:=by
   rw[show 64*(q+1)=64*q+64 by omega,←List.drop_drop,hd,hpad,List.drop_left' (zbr (by omega)),putC_eq _ _ (by simp),List.take_replicate]
   exact List.take_of_length_le (by simp[cntR])
  rw[hk,zbx,zbx,h0,hb1,hb2,if_pos (by omega)]
 ·have hg:gapR n=55-r:=by rw[gapR,←hr,if_neg h]
  have hk:(n+(gapR n+9))/64=q+1:=by rw[hg];omega
  have hb1:((bs++padR n).drop (64*q)).take 64=putC (padB rest) (n*8) 8:=by
   rw[hd,putC_eq _ _ (zbr (by omega))]
   have e1:(padB rest).take 56=rest++(128::List.replicate (55-r) 0):=by
    rw[padB,hrl,List.take_append,hrl,List.take_of_length_le (by omega),show 56-r=(55-r)+1 by omega,List.take_succ_cons,List.take_replicate,show min (55-r) (63-r)=55-r by omega]
   rw[e1,padR,hg]
   have e2:rest++128::(List.replicate (55-r) 0++cntR (n*8))=(rest++128::List.replicate (55-r) 0)++cntR (n*8):=by simp
   rw[e2]
   exact List.take_of_length_le (by simp[cntR];omega)
  rw[hk,zbx,h0,hb1,if_neg (by omega)]
def outR (s r:List Int):Nat→List Int
 |0=>[]
 |k+1=>outR s r k++[(r.getD k 0+s.getD k 0)%4294967296]
@[simp] theorem length_outR (s r:List Int): ∀k,(outR s r k).length=k
 |0=>rfl
 |k+1=>by simp[outR,length_outR s r k]
theorem addU_take (s r:List Int): ∀k,k≤s.length→addU s r k=outR s r k++s.drop k
 |0,_=>rfl
 |k+1,h=>by
  have ih:=addU_take s r k (by omega)
  have hd:s.drop k=s.getD k 0::s.drop (k+1):=by
   rw[List.drop_eq_getElem_cons (by omega:k<s.length)]
   simp[List.getD,show k<s.length by omega]
  have hg:(outR s r k++s.drop k).getD k 0=s.getD k 0:=by
   rw[hd,List.getD_eq_getElem?_getD,List.getElem?_append_right (by rw[length_outR];omega),length_outR,Nat.sub_self];rfl
  rw[addU,ih,hg,List.set_append_right _ _ (by rw[length_outR];omega),length_outR,Nat.sub_self,hd,outR]
  simp[Int.add_comm]
theorem mixL_ref (s b:List Int) (hs:s.length=8) (hb:Bytes b):mixL s b=outR s (rnds (zau b 64) s 64) 8:=by
 rw[mixL,sched_ref b hb,addU_take _ _ _ (by omega),List.drop_eq_nil_of_le (by omega),List.append_nil]
theorem refName_any (s:ByteArray) (w:World):
  Calls Tryz.prog 30 #[.string s] w fun e w'=>e= .returned (.bool (zbg (strL s)))∧w=w':=by
 have HLEN:=Lib.hid (zaQ s)
 by_cases h1:s.size<1
 ·have h1I:(s.size:Int)<1:=by omega
  have HR:Hid (zbg (strL s)=false):=Lib.hid (by unfold zbg;rw[decide_eq_false (by rw[zaQ];omega),Bool.false_and])
  clear h1
  go_enter Tryz.func30,Tryz.ntmps30
  go_wp2
  go_ret
  exact⟨zcW HR.out.symm,rfl⟩
 ·have h1I: ¬(s.size:Int)<1:=by omega
  by_cases h2:s.size≤32
  ·have h3: ¬(32:Int)<(s.size:Int):=by omega
   have HN:Hid (zbg (strL s)=(strL s).all okB):=Lib.hid (by
    unfold zbg
    rw[decide_eq_true (by rw[zaQ];omega),Bool.true_and])
   rw[HN.out]
   go_enter Tryz.func30,Tryz.ntmps30
   go_wp2
   go_loop [3] (fun v=> ∃k:Nat,k≤s.size∧v= .int .i64 (k:Int)∧(strL s).all okB=((strL s).drop k).all okB) (fun v=>s.size-(intOf v).toNat)
   case atStart=>exact⟨0,Nat.zero_le _,rfl,rfl⟩
   case round=>
    obtain⟨k,hk,rfl,hrun⟩:=hrel
    have HRUN:=Lib.hid hrun
    clear hrun h1 h1I h3 HN
    by_cases hlt:k<s.size
    ·have hd:=drop_strN s k hlt
     have hi0:(0:Int)≤(k:Int):=by omega
     have hcb:=s[k].toNat_lt
     have HSTEP:Hid ((strL s).all okB=(okB (s[k].toNat:Int)&&((strL s).drop (k+1)).all okB)):=Lib.hid (by rw[HRUN.out,hd,List.all_cons])
     clear hd
     have key:(((97≤(s[k].toNat:Int)∧(s[k].toNat:Int)≤122)∨(48≤(s[k].toNat:Int)∧(s[k].toNat:Int)≤57)∨(s[k].toNat:Int)=46∨(s[k].toNat:Int)=58∨(s[k].toNat:Int)=95∨(s[k].toNat:Int)=45))∨((¬97≤(s[k].toNat:Int)∨ ¬(s[k].toNat:Int)≤122)∧(¬48≤(s[k].toNat:Int)∨ ¬(s[k].toNat:Int)≤57)∧(s[k].toNat:Int)≠46∧(s[k].toNat:Int)≠58∧(s[k].toNat:Int)≠95∧(s[k].toNat:Int)≠45):=by omega
     rcases key with hyes|⟨k1,k2,e1,e2,e3,e4⟩
     ·have HR:Hid ((strL s).all okB=((strL s).drop (k+1)).all okB):=Lib.hid (by rw[HSTEP.out];unfold okB;rw[decide_eq_true hyes,Bool.true_and])
      clear HSTEP
      rcases hyes with⟨a,b⟩|⟨a,b⟩|a|a|a|a
      ·go_wp2
       go_round
       case rel=>exact⟨k+1,by omega,by go_num,HR.out⟩
       case measure=>simp[intOf];omega
      ·have a1: ¬97≤(s[k].toNat:Int):=by omega
       go_wp2
       go_round
       case rel=>exact⟨k+1,by omega,by go_num,HR.out⟩
       case measure=>simp[intOf];omega
      ·have q:((s[k].toNat:Int)==46)=true:=by simp[a]
       have qn:((s[k].toNat:Int)!=46)=false:=by rw[bne,q];rfl
       have a1: ¬97≤(s[k].toNat:Int):=by omega
       have a2: ¬48≤(s[k].toNat:Int):=by omega
       clear a
       go_wp2
       go_round
       case rel=>exact⟨k+1,by omega,by go_num,HR.out⟩
       case measure=>simp[intOf];omega
      ·have q:((s[k].toNat:Int)==58)=true:=by simp[a]
       have qn:((s[k].toNat:Int)!=58)=false:=by rw[bne,q];rfl
       have q1:((s[k].toNat:Int)==46)=false:=by simp[a]
       have q1n:((s[k].toNat:Int)!=46)=true:=by rw[bne,q1];rfl
       have a1: ¬97≤(s[k].toNat:Int):=by omega
       have a2:48≤(s[k].toNat:Int):=by omega
       have a3: ¬(s[k].toNat:Int)≤57:=by omega
       clear a
       go_wp2
       go_round
       case rel=>exact⟨k+1,by omega,by go_num,HR.out⟩
       case measure=>simp[intOf];omega
      ·have q:((s[k].toNat:Int)==95)=true:=by simp[a]
       have qn:((s[k].toNat:Int)!=95)=false:=by rw[bne,q];rfl
       have q1:((s[k].toNat:Int)==46)=false:=by simp[a]
       have q1n:((s[k].toNat:Int)!=46)=true:=by rw[bne,q1];rfl
       have q2:((s[k].toNat:Int)==58)=false:=by simp[a]
       have q2n:((s[k].toNat:Int)!=58)=true:=by rw[bne,q2];rfl
       have a1: ¬97≤(s[k].toNat:Int):=by omega
       have a2:48≤(s[k].toNat:Int):=by omega
       have a3: ¬(s[k].toNat:Int)≤57:=by omega
       clear a
       go_wp2
       go_round
       case rel=>exact⟨k+1,by omega,by go_num,HR.out⟩
       case measure=>simp[intOf];omega
      ·have q:((s[k].toNat:Int)==45)=true:=by simp[a]
       have qn:((s[k].toNat:Int)!=45)=false:=by rw[bne,q];rfl
       have q1:((s[k].toNat:Int)==46)=false:=by simp[a]
       have q1n:((s[k].toNat:Int)!=46)=true:=by rw[bne,q1];rfl
       have q2:((s[k].toNat:Int)==58)=false:=by simp[a]
       have q2n:((s[k].toNat:Int)!=58)=true:=by rw[bne,q2];rfl
       have q3:((s[k].toNat:Int)==95)=false:=by simp[a]
       have q3n:((s[k].toNat:Int)!=95)=true:=by rw[bne,q3];rfl
       have a1: ¬97≤(s[k].toNat:Int):=by omega
       have a2: ¬48≤(s[k].toNat:Int):=by omega
       clear a
       go_wp2
       go_round
       case rel=>exact⟨k+1,by omega,by go_num,HR.out⟩
       case measure=>simp[intOf];omega
     ·have HR:Hid ((strL s).all okB=false):=Lib.hid (by
       rw[HSTEP.out];unfold okB;rw[decide_eq_false (by omega),Bool.false_and])
      have q1:((s[k].toNat:Int)==46)=false:=by simp[e1]
      have q1n:((s[k].toNat:Int)!=46)=true:=by rw[bne,q1];rfl
      have q2:((s[k].toNat:Int)==58)=false:=by simp[e2]
      have q2n:((s[k].toNat:Int)!=58)=true:=by rw[bne,q2];rfl
      have q3:((s[k].toNat:Int)==95)=false:=by simp[e3]
      have q3n:((s[k].toNat:Int)!=95)=true:=by rw[bne,q3];rfl
      have q4:((s[k].toNat:Int)==45)=false:=by simp[e4]
      have q4n:((s[k].toNat:Int)!=45)=true:=by rw[bne,q4];rfl
      clear HSTEP e1 e2 e3 e4
      rcases k1 with k1|k1
      ·rcases k2 with k2|k2
       ·go_wp2
        go_ret
        exact⟨zcW HR.out.symm,rfl⟩
       ·have k3:48≤(s[k].toNat:Int):=by omega
        go_wp2
        go_ret
        exact⟨zcW HR.out.symm,rfl⟩
      ·have k3:97≤(s[k].toNat:Int):=by omega
       have k4:48≤(s[k].toNat:Int):=by omega
       have k5: ¬(s[k].toNat:Int)≤57:=by omega
       clear k2
       go_wp2
       go_ret
       exact⟨zcW HR.out.symm,rfl⟩
    ·obtain rfl:k=s.size:=by omega
     have HR:Hid ((strL s).all okB=true):=Lib.hid (by rw[HRUN.out,List.drop_of_length_le (by rw[HLEN.out];exact Nat.le_refl _)];rfl)
     clear hlt
     go_wp2
     go_ret
     exact⟨zcW HR.out.symm,rfl⟩
  ·have h3:(32:Int)<(s.size:Int):=by omega
   have HR:Hid (zbg (strL s)=false):=Lib.hid (by unfold zbg;rw[decide_eq_false (by rw[zaQ];omega),Bool.false_and])
   clear h1 h2
   go_enter Tryz.func30,Tryz.ntmps30
   go_wp2
   go_ret
   exact⟨zcW HR.out.symm,rfl⟩
end Go.Proofs.YthbpgdmbcegodaaGreatDoor
