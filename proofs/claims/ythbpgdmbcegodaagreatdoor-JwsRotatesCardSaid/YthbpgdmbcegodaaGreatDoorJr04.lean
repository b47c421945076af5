
import Derived.Lib.Split
import Derived.Lib.Join
import Derived.Deep.RegionHeld3
import Derived.Shelf.Abstract
import Derived.Maps.RangeWalk
import Derived.Test.YthbpgdmbcegodaaGreatDoorJr01
set_option maxRecDepth 100000
set_option maxHeartbeats 16000000
set_option linter.all false
namespace Go.Proofs.YthbpgdmbcegodaaGreatDoor
open Go Go.RowKit
abbrev KeyM:=ByteArray×ByteArray
def zgK (k:KeyM):Bool:=zbg (strL k.1)&&decide (1≤k.2.size∧k.2.size≤128)
def zdb (ks:List KeyM) (t:ByteArray):Bool:=ks.any fun k=>decide (k.1=t)
def zka (ks:List KeyM):Nat→Bool
 |0=>true
 |i+1=>zka ks i&&(match ks[i]? with
  |none=>true
  |some k=>zgK k&& !zdb (ks.take i) k.1)
def zbs (ks:List KeyM):Bool:=decide (1≤ks.length∧ks.length≤4)&&zka ks ks.length
theorem zfz {ks:List KeyM} {i:Nat} (h:i<ks.length):zka ks (i+1)=(zka ks i&&(zgK ks[i]&& !zdb (ks.take i) ks[i].1)):=by
 rw[zka,List.getElem?_eq_getElem h]
theorem znk {ks:List KeyM}: ∀{i j:Nat},i≤j→zka ks j=true→zka ks i=true
 |i,0,h,hj=>by rw[Nat.le_zero.1 h];exact hj
 |i,j+1,h,hj=>by
  rcases Nat.lt_or_ge j i with h'|h'
  ·rw[show i=j+1 by omega];exact hj
  ·rw[zka,Bool.and_eq_true]at hj
   exact znk h' hj.1
theorem ring_bad {ks:List KeyM} {i:Nat} (h:i<ks.length) (hb:(zgK ks[i]&& !zdb (ks.take i) ks[i].1)=false):zbs ks=false:=by
 cases hr:zbs ks with
 |false=>rfl
 |true=>
  unfold zbs at hr
  rw[Bool.and_eq_true]at hr
  have:=znk (i:=i+1) h hr.2
  rw[zfz h,hb,Bool.and_false]at this
  cases this
theorem zdQ {ks:List KeyM} (h:zbs ks=true):1≤ks.length∧ks.length≤4∧ ∀k∈ks,zbg (strL k.1)=true∧1≤k.2.size∧k.2.size≤128:=by
 unfold zbs at h
 rw[Bool.and_eq_true,decide_eq_true_eq]at h
 refine⟨h.1.1,h.1.2,fun k hk=> ?_⟩
 obtain⟨i,hi,rfl⟩:=List.mem_iff_getElem.1 hk
 have:=znk (i:=i+1) hi h.2
 rw[zfz hi,Bool.and_eq_true,Bool.and_eq_true]at this
 have:=this.2.1
 unfold zgK at this
 rw[Bool.and_eq_true,decide_eq_true_eq]at this
 exact this
theorem ring_len {ks:List KeyM} (h: ¬(1≤ks.length∧ks.length≤4)):zbs ks=false:=by
 unfold zbs;rw[decide_eq_false h,Bool.false_and]
theorem zcb {s:ByteArray} (h:zbg (strL s)=true):1≤s.size∧s.size≤32:=by
 have:=nameB_len h;rw[zaQ]at this;exact this
def zdd (ks:List KeyM) (k:KeyM):List KeyM:=(if ks.length=4 then ks.drop 1 else ks)++[k]
def rotB (ks:List KeyM) (k:KeyM):Bool:=zbs ks&&zbs (zdd ks k)
def zdJ:List Int→List (List Int)
 |[]=>[[]]
 |c::r=>if c=46 then[]::zdJ r else
  match zdJ r with
  |p::ps=>(c::p)::ps
  |[]=>[[c]]
theorem znn: ∀l:List Int,zdJ l≠[]
 |[]=>by simp[zdJ]
 |c::r=>by
  unfold zdJ
  split
  ·simp
  ·split<;>simp
theorem zhc: ∀(a b:List Int),46 ∉ a→zdJ (a++46::b)=a::zdJ b
 |[],b,_=>by simp[zdJ]
 |c::r,b,h=>by
  have hc: ¬c=46:=fun e=>h (by simp[e])
  have ih:=zhc r b (fun k=>h (List.mem_cons_of_mem _ k))
  rw[List.cons_append,zdJ,if_neg hc,ih]
theorem zhu: ∀(a:List Int),46 ∉ a→zdJ a=[a]
 |[],_=>rfl
 |c::r,h=>by
  have hc: ¬c=46:=fun e=>h (by simp[e])
  rw[zdJ,if_neg hc,zhu r (fun k=>h (List.mem_cons_of_mem _ k))]
theorem zeo: ∀(l p:List Int),p∈zdJ l→46 ∉ p∧(∀x∈p,x∈l)∧p.length≤l.length
 |[],p,h=>by simp[zdJ]at h;subst h;simp
 |c::r,p,h=>by
  rw[zdJ]at h
  split at h
  ·rcases List.mem_cons.1 h with rfl|h
   ·simp
   ·obtain⟨h1,h2,h3⟩:=zeo r p h
    exact⟨h1,fun x hx=>List.mem_cons_of_mem _ (h2 x hx),by simp;omega⟩
  ·rename_i hc
   split at h
   ·rename_i q qs e
    rcases List.mem_cons.1 h with rfl|h
    ·obtain⟨h1,h2,h3⟩:=zeo r q (by rw[e];simp)
     refine⟨fun k=> ?_,fun x hx=> ?_,by simp;omega⟩
     ·rcases List.mem_cons.1 k with k|k
      ·exact hc k.symm
      ·exact h1 k
     ·rcases List.mem_cons.1 hx with rfl|hx
      ·simp
      ·exact List.mem_cons_of_mem _ (h2 x hx)
    ·obtain⟨h1,h2,h3⟩:=zeo r p (by rw[e];exact List.mem_cons_of_mem _ h)
     exact⟨h1,fun x hx=>List.mem_cons_of_mem _ (h2 x hx),by simp;omega⟩
   ·rename_i e;exact absurd e (znn r)
theorem dotsL_three: ∀{l a b c:List Int},zdJ l=[a,b,c]→l=a++46::(b++46::c):=by
 have one: ∀(l p:List Int) (ps:List (List Int)),zdJ l=p::ps→(ps=[]∧l=p)∨ ∃r,l=p++46::r∧zdJ r=ps:=by
  intro l
  induction l with
  |nil=>intro p ps h;simp[zdJ]at h;exact .inl ⟨h.2,h.1.symm⟩
  |cons x r ih=>
   intro p ps h
   rw[zdJ]at h
   split at h
   ·rename_i hx;injection h with h1 h2;exact .inr ⟨r,by rw[←h1,hx];rfl,h2⟩
   ·split at h
    ·rename_i q qs e
     injection h with h1 h2
     rcases ih q qs e with⟨a1,a2⟩|⟨r',a1,a2⟩
     ·exact .inl ⟨by rw[←h2,a1],by rw[←h1,a2]⟩
     ·exact .inr ⟨r',by rw[←h1,a1];rfl,by rw[a2,h2]⟩
    ·rename_i e;exact absurd e (znn r)
 intro l a b c h
 rcases one l a _ h with⟨e,_⟩|⟨r,e1,h1⟩
 ·cases e
 rcases one r b _ h1 with⟨e,_⟩|⟨t,e2,h2⟩
 ·cases e
 rcases one t c _ h2 with⟨_,e3⟩|⟨u,_,h3⟩
 ·rw[e1,e2,e3]
 ·exact absurd h3 (znn u)
theorem zmQ (c:UInt8): ∀l:List UInt8,(Lib.indexByte l c= -1∧c ∉ l)∨ ∃a b,l=a++c::b∧c ∉ a∧Lib.indexByte l c=a.length
 |[]=> .inl ⟨rfl,by simp⟩
 |b::l=>by
  unfold Lib.indexByte
  by_cases h:b=c
  ·subst h
   exact .inr ⟨[],l,rfl,by simp,by simp⟩
  ·have hb:(b==c)=false:=beq_eq_false_iff_ne.2 h
   have h': ¬c=b:=fun e=>h e.symm
   rcases zmQ c l with⟨h1,h2⟩|⟨a,b',h1,h2,h3⟩
   ·exact .inl ⟨by rw[hb,h1];rfl,by simp[h',h2]⟩
   ·refine .inr ⟨b::a,b',by rw[h1];rfl,by simp[h',h2],?_⟩
    have hn:((a.length:Int)== -1)=false:=by rw[beq_eq_false_iff_ne];omega
    rw[hb,h3]
    simp[hn]
def nUd (b:UInt8):Int:=(b.toNat:Int)
theorem nUd_inj {a b:UInt8} (h:nUd a=nUd b):a=b:=UInt8.toNat_inj.1 (by unfold nUd at h;omega)
theorem zjt {c:UInt8} {l:List UInt8} (h:c ∉ l):nUd c ∉ l.map nUd:=fun k=>by
 obtain⟨x,hx,e⟩:=List.mem_map.1 k
 exact h (nUd_inj e▸hx)
theorem zjY: ∀(n:Nat) (l:List UInt8),l.length≤n→(Lib.splitK [46] 0 (Lib.count l [46]) l).map (·.map nUd)=zdJ (l.map nUd)
 |n,l,hn=>by
  rcases zmQ 46 l with⟨h1,h2⟩|⟨a,b,h1,h2,h3⟩
  ·have hi:Lib.index l [46]= -1:=(Lib.index_one _ _).trans h1
   rw[Lib.count_miss hi]
   have:=zjt h2
   rw[show nUd 46=46 from rfl]at this
   rw[zhu _ this];rfl
  ·have hi:Lib.index l [46]=(a.length:Int):=(Lib.index_one _ _).trans h3
   have hd:l.drop (a.length+1)=b:=by rw[h1,List.drop_append];simp
   have ht:l.take a.length=a:=by rw[h1,List.take_left]
   rw[Lib.count_hit (by simp) hi,Nat.add_comm,Lib.splitK]
   have hne: ¬(Lib.index l [46]== -1)=true:=by rw[hi,beq_iff_eq];omega
   rw[if_neg hne,hi]
   simp only[Int.toNat_natCast,Nat.add_zero,List.length_singleton,ht,hd,List.map_cons]
   have hlen:l.length=a.length+(b.length+1):=by rw[h1];simp
   match n,hn with
   |0,hn=>omega
   |n+1,hn=>
    rw[zjY n b (by omega),h1,List.map_append,List.map_cons]
    have:=zjt h2
    rw[show nUd 46=46 from rfl]at this
    rw[show nUd 46=46 from rfl,zhc _ _ this]
theorem split_dots (s sep:ByteArray) (hs:sep.data.toList=[46]):(Lib.splitB sep 0 (Lib.countB s sep) s).map strL=zdJ (strL s):=by
 have h:=Lib.splitB_data sep 0 (Lib.countB s sep) s
 rw[hs]at h
 have hc:Lib.countB s sep=Lib.count s.data.toList [46]:=by rw[←hs]
 rw[hc]at h
 have h2:=zjY _ s.data.toList (Nat.le_refl _)
 rw[←h,List.map_map]at h2
 rw[hc]
 exact h2
theorem rgS:(∀(a:Act) (k:Nat) (v:Value),a.put (some k) v={a with tmps:=a.tmps.setIfInBounds k v})∧(∀(a:Act) (v:Value),a.put none v=a)∧(∀(l:List Value) (i:Nat) (v:Value),l.toArray.setIfInBounds i v=(l.set i v).toArray)∧(∀(x v:Value) (l:List Value),(x::l).set 0 v=v::l)∧(∀(x v:Value) (l:List Value) (i:Nat),(x::l).set (i+1) v=x::l.set i v)∧
  (∀(l:List Oper) (i:Nat) (h:i<l.toArray.size),l.toArray[i]=l[i]'(by simpa using h))∧(∀(l:List Oper) (a:Oper) (i:Nat) (h:i+1<(a::l).length),(a::l)[i+1]=l[i]'(by simpa using h))∧(∀(l:List Oper) (a:Oper) (h:0<(a::l).length),(a::l)[0]=a):=
 ⟨fun _ _ _=>rfl,fun _ _=>rfl,fun _ _ _=>by simp,fun _ _ _=>rfl,fun _ _ _ _=>rfl,fun _ _ _=>by simp,fun _ _ _ _=>rfl,fun _ _ _=>rfl⟩
section
variable {P:Program} {ops:Array Oper} {Q:Exit→Act→World→Prop} {md:Region.Mode} {S:World→Prop} {fuel:Nat} {listed:Array Bool} {a:Act} {w:World}
theorem rgT (i:Nat) {v:Value} {oi:Oper} (h:wpAnyH P md ops Q S fuel (listed.setIfInBounds i true) (a.put oi.dst v) w) (hi:ops[i]? =some oi:=by rfl) (hs:Region.noSelect ops=true:=by kernel_rfl) (hf:Region.free md ops listed i=true:=by kernel_rfl) (hr:(Region.ready md ops listed).contains i=true:=by kernel_rfl)
  (hQ: ∀c a w,Q (.panic c) (a.put oi.dst v) w→Q (.panic c) a w:=by exact fun _ _ _ h=>h) (hw:Region.wanted oi (yielded ops a.tmps)=true:=by rfl) (hy: ∀w,S w→(execOp a.eval oi).run P w= .ok (.value v) w:=by(intro w hSw;first|(go_simp;done)|(go_simp;with_reducible rfl))) (hS:S w:=by assumption):
  wpAnyH P md ops Q S (fuel+1) listed a w:=
 wpAnyH_take hi hs hf hr hQ (Or.inl ⟨hw,hy⟩) hS h
theorem rgU (i:Nat) {oi:Oper} (h:wpAnyH P md ops Q S fuel (listed.setIfInBounds i true) (a.put oi.dst undef) w) (hi:ops[i]? =some oi:=by rfl) (hs:Region.noSelect ops=true:=by kernel_rfl) (hf:Region.free md ops listed i=true:=by kernel_rfl) (hr:(Region.ready md ops listed).contains i=true:=by kernel_rfl)
  (hQ: ∀c a w,Q (.panic c) (a.put oi.dst undef) w→Q (.panic c) a w:=by exact fun _ _ _ h=>h) (hw:Region.wanted oi (yielded ops a.tmps)=false:=by rfl) (hS:S w:=by assumption):
  wpAnyH P md ops Q S (fuel+1) listed a w:=
 wpAnyH_take hi hs hf hr hQ (Or.inr ⟨hw,rfl⟩) hS h
theorem rgO (i:Nat) {o:Oper} (h: ∀K':Act→World→Prop,Shut (∀a w,S w→(S w→wpAnyH P md ops Q S fuel (listed.setIfInBounds i true) a w)→K' a w)→if Region.wanted o (yielded ops a.tmps)=true then Oper.wp P o a w K' Q else K' (a.put o.dst undef) w)
  (hr:Region.ready md ops listed=[i]:=by kernel_rfl) (hi:ops[i]? =some o:=by rfl):wpAnyH P md ops Q S (fuel+1) listed a w:=
 wpAnyH_ready hr (by simp) (AllReadyH.cons hi h AllReadyH.nil)
end
def rotr (x:Int) (k:Nat):Int:=bits .or .u32 (x*2^(32-k)%4294967296) (x/2^k)
theorem bits_u32 (op:BinOp) (x y:Int):0≤bits op .u32 x y∧bits op .u32 x y<4294967296:=by
 unfold bits;simp only[IntKind.wrap_u32];omega
def ziQ (x:Int) (i j k:Nat):Int:=bits .xor .u32 (bits .xor .u32 (rotr x i) (rotr x j)) (rotr x k)
def accs (b:List Int):Nat→List Int
 |0=>List.replicate 64 0
 |k+1=>(accs b k).set (k/4) (bits .or .u32 ((accs b k).getD (k/4) 0*256%4294967296) (b.getD k 0))
@[simp] theorem length_accs (b:List Int): ∀k,(accs b k).length=64
 |0=>by simp[accs]
 |k+1=>by simp[accs,length_accs b k]
theorem accs_bd (b:List Int): ∀k i,0≤(accs b k).getD i 0∧(accs b k).getD i 0<4294967296
 |0,i=>by
  simp only[accs,List.getD_eq_getElem?_getD,List.getElem?_replicate]
  split<;>simp
 |k+1,i=>by
  have h:=accs_bd b k i
  simp only[accs,List.getD_eq_getElem?_getD,List.getElem?_set]at h⊢
  split
  ·split
   ·simp only[Option.getD_some];exact bits_u32 _ _ _
   ·simp
  ·exact h
def sig1 (p:Int):Int:=bits .xor .u32 (bits .xor .u32 (rotr p 17) (rotr p 19)) (p/1024)
def sig0 (q:Int):Int:=bits .xor .u32 (bits .xor .u32 (rotr q 7) (rotr q 18)) (q/8)
def zgz (L:List Int) (t:Nat):Int:=(sig1 (L.getD (t-2) 0)+L.getD (t-7) 0+sig0 (L.getD (t-15) 0)+L.getD (t-16) 0)%4294967296
def zbv (b:List Int):Nat→List Int
 |0=>accs b 64
 |n+1=>(zbv b n).set (16+n) (zgz (zbv b n) (16+n))
@[simp] theorem length_sched (b:List Int): ∀k,(zbv b k).length=64
 |0=>by simp[zbv]
 |k+1=>by simp[zbv,length_sched b k]
theorem nextw_bd (L:List Int) (t:Nat):0≤zgz L t∧zgz L t<4294967296:=by unfold zgz;omega
theorem zft (b:List Int): ∀k i,0≤(zbv b k).getD i 0∧(zbv b k).getD i 0<4294967296
 |0,i=>accs_bd b 64 i
 |k+1,i=>by
  have h:=zft b k i
  simp only[zbv,List.getD_eq_getElem?_getD,List.getElem?_set]at h⊢
  split
  ·split
   ·simp only[Option.getD_some];exact nextw_bd _ _
   ·simp
  ·exact h
def rootsL:List Int:=[1116352408,1899447441,3049323471,3921009573,961987163,1508970993,2453635748,2870763221,3624381080,310598401,607225278,1426881987,1925078388,2162078206,2614888103,3248222580,3835390401,4022224774,264347078,604807628,770255983,1249150122,1555081692,1996064986,2554220882,2821834349,2952996808,3210313671,3336571891,3584528711,113926993,338241895,666307205,773529912,1294757372,1396182291,1695183700,1986661051,2177026350,2456956037,2730485921,2820302411,3259730800,3345764771,3516065817,3600352804,4094571909,275423344,430227734,506948616,659060556,883997877,958139571,1322822218,1537002063,1747873779,1955562222,2024104815,2227730452,2361852424,2428436474,2756734187,3204031479,3329325298]
theorem zfh:rootsL.length=64:=rfl
def rnd (s:List Int) (kt wt:Int):List Int:=
 match s with
 |[a,b,c,d,e,f,g,h]=>
  [(((h+ziQ e 6 11 25+bits .xor .u32 (bits .and .u32 e f) (bits .and .u32 (bits .xor .u32 4294967295 e) g)+kt+wt)%4294967296)+((ziQ a 2 13 22+bits .xor .u32 (bits .xor .u32 (bits .and .u32 a b) (bits .and .u32 a c)) (bits .and .u32 b c))%4294967296))%4294967296,
   a,b,c,(d+((h+ziQ e 6 11 25+bits .xor .u32 (bits .and .u32 e f) (bits .and .u32 (bits .xor .u32 4294967295 e) g)+kt+wt)%4294967296))%4294967296,e,f,g]
 |s=>s
def rnds (W s:List Int):Nat→List Int
 |0=>s
 |k+1=>rnd (rnds W s k) (rootsL.getD k 0) (W.getD k 0)
def addU (s r:List Int):Nat→List Int
 |0=>s
 |k+1=>(addU s r k).set k (((addU s r k).getD k 0+r.getD k 0)%4294967296)
@[simp] theorem length_addU (s r:List Int): ∀k,(addU s r k).length=s.length
 |0=>rfl
 |k+1=>by simp[addU,length_addU s r k]
theorem addU_bd (s r:List Int) (hs: ∀i,0≤s.getD i 0∧s.getD i 0<4294967296): ∀k i,0≤(addU s r k).getD i 0∧(addU s r k).getD i 0<4294967296
 |0,i=>hs i
 |k+1,i=>by
  have h:=addU_bd s r hs k i
  simp only[addU,List.getD_eq_getElem?_getD,List.getElem?_set]at h⊢
  split
  ·split
   ·simp only[Option.getD_some];omega
   ·simp
  ·exact h
def mixL (s b:List Int):List Int:=addU s (rnds (zbv b 48) s 64) 8
theorem zbY (s b:List Int):(mixL s b).length=s.length:=length_addU _ _ _
theorem zex (s b:List Int) (hs: ∀i,0≤s.getD i 0∧s.getD i 0<4294967296) (i:Nat):0≤(mixL s b).getD i 0∧(mixL s b).getD i 0<4294967296:=addU_bd _ _ hs 8 i
def startL:List Int:=[1779033703,3144134277,1013904242,2773480762,1359893119,2600822924,528734635,1541459225]
def HC (sum blk:List Int) (n:Nat):List Value:=ints .u32 sum++(ints .u8 blk++[.int .u64 (n:Int)])
def shr8 (m:Int):Nat→Int
 |0=>m
 |k+1=>shr8 m k/256
def putC (L:List Int) (m:Int):Nat→List Int
 |0=>L
 |k+1=>(putC L m k).set (56+(7-k)) (shr8 m k%256)
@[simp] theorem length_putC (L:List Int) (m:Int): ∀k,(putC L m k).length=L.length
 |0=>rfl
 |k+1=>by simp[putC,length_putC L m k]
theorem putC_bd (L:List Int) (m:Int) (hL: ∀i,0≤L.getD i 0∧L.getD i 0≤255): ∀k i,0≤(putC L m k).getD i 0∧(putC L m k).getD i 0≤255
 |0,i=>hL i
 |k+1,i=>by
  have h:=putC_bd L m hL k i
  simp only[putC,List.getD_eq_getElem?_getD,List.getElem?_set]at h⊢
  split
  ·split
   ·simp only[Option.getD_some];omega
   ·simp
  ·exact h
def sbL (s:List Int):Nat→List Int
 |0=>List.replicate 32 0
 |k+1=>((((sbL s k).set (4*k) (s.getD k 0/16777216)).set (4*k+1) (s.getD k 0/65536%256)).set (4*k+2) (s.getD k 0/256%256)).set (4*k+3) (s.getD k 0%256)
@[simp] theorem length_sbL (s:List Int): ∀k,(sbL s k).length=32
 |0=>by simp[sbL]
 |k+1=>by simp[sbL,length_sbL s k]
theorem set_bd (L:List Int) (n:Nat) (x:Int) (hx:0≤x∧x≤255) (hL: ∀i,0≤L.getD i 0∧L.getD i 0≤255) (i:Nat):0≤(L.set n x).getD i 0∧(L.set n x).getD i 0≤255:=by
 have h:=hL i
 simp only[List.getD_eq_getElem?_getD,List.getElem?_set]at h⊢
 split
 ·split
  ·simp only[Option.getD_some];exact hx
  ·simp
 ·exact h
theorem rep_bd (n:Nat) (i:Nat):0≤(List.replicate n (0:Int)).getD i 0∧(List.replicate n (0:Int)).getD i 0≤255:=by
 simp only[List.getD_eq_getElem?_getD,List.getElem?_replicate]
 split<;>simp
theorem sbL_bd (s:List Int) (hs: ∀i,0≤s.getD i 0∧s.getD i 0<4294967296): ∀k i,0≤(sbL s k).getD i 0∧(sbL s k).getD i 0≤255
 |0,i=>rep_bd 32 i
 |k+1,i=>by
  have:=hs k
  unfold sbL
  exact set_bd _ _ _ (by omega) (set_bd _ _ _ (by omega) (set_bd _ _ _ (by omega) (set_bd _ _ _ (by omega) (sbL_bd s hs k)))) i
def Words (l:List Int):Prop:= ∀i,0≤l.getD i 0∧l.getD i 0<4294967296
theorem Bytes.rep (n:Nat):Bytes (List.replicate n 0):=rep_bd n
theorem Words.start:Words startL:=fun i=>
 match i with
 |0|1|2|3|4|5|6|7=>by decide
 |n+8=>by simp[startL]
def zbx (bs:List Int):Nat→List Int
 |0=>startL
 |k+1=>mixL (zbx bs k) ((bs.drop (64*k)).take 64)
theorem zbp (bs:List Int): ∀k,(zbx bs k).length=8
 |0=>rfl
 |k+1=>by rw[zbx,zbY,zbp bs k]
theorem zdz (bs:List Int): ∀k,Words (zbx bs k)
 |0=>Words.start
 |k+1=>fun i=>zex _ _ (zdz bs k) i
theorem zdn (bs x:List Int): ∀k,64*k≤bs.length→zbx (bs++x) k=zbx bs k
 |0,_=>rfl
 |k+1,h=>by
  rw[zbx,zbx,zdn bs x k (by omega),List.drop_append_of_le_length (by omega),List.take_append_of_le_length (by rw[List.length_drop];omega)]
def HOk (sum blk bs:List Int):Prop:=
 sum.length=8∧Words sum∧blk.length=64∧Bytes blk∧blk.take (bs.length%64)=bs.drop (64*(bs.length/64))∧(64≤bs.length→sum=zbx bs (bs.length/64))
theorem HOk.zero:HOk (List.replicate 8 0) (List.replicate 64 0) []:=
 ⟨rfl,fun i=>by have:=rep_bd 8 i;omega,rfl,rep_bd 64,rfl,fun h=>absurd h (by simp)⟩
theorem HOk.soFar {sum blk bs:List Int} (h:HOk sum blk bs):(if bs.length<64 then startL else sum)=zbx bs (bs.length/64):=by
 split
 ·rename_i hlt
  rw[show bs.length/64=0 by omega];rfl
 ·exact h.2.2.2.2.2 (by omega)
theorem zhh {sum blk bs:List Int} (h:HOk sum blk bs) (ds:List Int) (hf:bs.length%64+ds.length≤64):
  (splice blk (bs.length%64) ds).take (bs.length%64+ds.length)=(bs++ds).drop (64*(bs.length/64))∧(splice blk (bs.length%64) ds).length=64:=by
 obtain⟨_,_,hb,_,ht,_⟩:=h
 refine⟨?_,length_splice blk (bs.length%64) ds (by omega)|>.trans hb⟩
 rw[splice,←List.append_assoc,List.take_append_of_le_length (by simp;omega),List.take_of_length_le (by simp;omega),ht,List.drop_append_of_le_length (by omega)]
theorem HOk.part {sum blk bs:List Int} (h:HOk sum blk bs) (ds:List Int) (hd:Bytes ds) (hf:bs.length%64+ds.length<64):HOk sum (splice blk (bs.length%64) ds) (bs++ds):=by
 obtain⟨h1,h2⟩:=zhh h ds (by omega)
 obtain⟨hs,hw,hb,hy,ht,ha⟩:=h
 have e1:(bs++ds).length=bs.length+ds.length:=List.length_append
 have e2:(bs.length+ds.length)/64=bs.length/64:=by omega
 have e3:(bs.length+ds.length)%64=bs.length%64+ds.length:=by omega
 refine⟨hs,hw,h2,hy.splice hd _,by rw[e1,e2,e3,h1],fun h64=> ?_⟩
 rw[e1,e2,zdn _ _ _ (by omega)]
 exact ha (by omega)
theorem HOk.full {sum blk bs:List Int} (h:HOk sum blk bs) (ds:List Int) (hd:Bytes ds) (hf:bs.length%64+ds.length=64):
  HOk (mixL (zbx bs (bs.length/64)) (splice blk (bs.length%64) ds)) (splice blk (bs.length%64) ds) (bs++ds):=by
 obtain⟨h1,h2⟩:=zhh h ds (by omega)
 obtain⟨hs,hw,hb,hy,ht,ha⟩:=h
 have e1:(bs++ds).length=bs.length+ds.length:=List.length_append
 have e2:(bs.length+ds.length)/64=bs.length/64+1:=by omega
 have e3:(bs.length+ds.length)%64=0:=by omega
 refine⟨by rw[zbY,zbp],fun i=>zex _ _ (zdz _ _) i,h2,hy.splice hd _,?_,fun _=> ?_⟩
 ·rw[e1,e2,e3,List.take_zero,List.drop_eq_nil_of_le (by rw[e1];omega)]
 ·rw[e1,e2,zbx,zdn _ _ _ (by omega),←h1,hf,List.take_take,show min 64 64=64 from rfl,List.take_of_length_le (by omega)]
def padB (rest:List Int):List Int:=rest++(128::List.replicate (63-rest.length) 0)
def finL (bs:List Int):List Int:=
 if 64-bs.length%64-1<8 then mixL (mixL (zbx bs (bs.length/64)) (padB (bs.drop (64*(bs.length/64))))) (putC (List.replicate 64 0) (bs.length*8) 8)
 else mixL (zbx bs (bs.length/64)) (putC (padB (bs.drop (64*(bs.length/64)))) (bs.length*8) 8)
def zbQ (bs:List Int):List Int:=sbL (finL bs) 8
theorem length_finL (bs:List Int):(finL bs).length=8:=by
 unfold finL;split<;>simp[zbY,zbp]
theorem finL_bd (bs:List Int):Words (finL bs):=by
 unfold finL;split
 ·exact fun i=>zex _ _ (fun j=>zex _ _ (zdz _ _) j) i
 ·exact fun i=>zex _ _ (zdz _ _) i
theorem zap (bs:List Int):(zbQ bs).length=32:=length_sbL _ _
theorem zcX (bs:List Int):Bytes (zbQ bs):=sbL_bd _ (finL_bd bs) 8
theorem padB_bd {rest:List Int} (h:Bytes rest):Bytes (padB rest):=h.append (.of_mem fun x hx=>by
 rcases List.mem_cons.1 hx with rfl|hx
 ·decide
 ·rw[List.eq_of_mem_replicate hx];decide)
theorem zbr {rest:List Int} (h:rest.length<64):(padB rest).length=64:=by simp[padB];omega
def sg (n:Int):Int:=if n<26 then n+65 else if n<52 then n+71 else if n<62 then n-4 else if n<63 then 45 else 95
def wo (c:Int):Int:=if 65≤c∧c≤90 then c-65 else if 97≤c∧c≤122 then c-71 else if 48≤c∧c≤57 then c+4 else if c=45 then 62 else if c=95 then 63 else 64
theorem zeZ (c:Int):0≤wo c∧wo c≤64:=by unfold wo;split<;>(try split)<;>(try split)<;>(try split)<;>(try split)<;>omega
theorem sg_bd (n:Int) (h:0≤n∧n<64):45≤sg n∧sg n≤122:=by unfold sg;split<;>(try split)<;>(try split)<;>(try split)<;>omega
theorem zie (n:Int) (h:0≤n∧n<64):wo (sg n)=n:=by
 unfold sg
 split
 ·unfold wo;rw[if_pos (by omega)];omega
 ·split
  ·unfold wo;rw[if_neg (by omega),if_pos (by omega)];omega
  ·split
   ·unfold wo;rw[if_neg (by omega),if_neg (by omega),if_pos (by omega)];omega
   ·split
    ·unfold wo;rw[if_neg (by omega),if_neg (by omega),if_neg (by omega),if_pos (by omega)];omega
    ·unfold wo;rw[if_neg (by omega),if_neg (by omega),if_neg (by omega),if_neg (by omega),if_pos (by omega)];omega
def encL:List Int→List Int
 |a::b::c::r=>sg (a/4)::sg (a%4*16+b/16)::sg (b%16*4+c/64)::sg (c%64)::encL r
 |[a,b]=>[sg (a/4),sg (a%4*16+b/16),sg (b%16*4)]
 |[a]=>[sg (a/4),sg (a%4*16)]
 |[]=>[]
def decL:List Int→List Int
 |a::b::c::d::r=>(wo a*4+wo b/16)::(wo b%16*16+wo c/4)::(wo c%4*64+wo d)::decL r
 |[a,b,c]=>[wo a*4+wo b/16,wo b%16*16+wo c/4]
 |[a,b]=>[wo a*4+wo b/16]
 |_=>[]
def badL:List Int→Nat
 |[]=>0
 |c::r=>if wo c=64 then 0 else badL r+1
theorem znv: ∀l,badL l≤l.length
 |[]=>Nat.le_refl _
 |c::r=>by
  have:=znv r
  unfold badL
  split
  ·exact Nat.zero_le _
  ·simp;omega
theorem zkj: ∀(l:List Int) (k:Nat),k<badL l→wo (l.getD k 0)≠64
 |[],k,h=>absurd h (by simp[badL])
 |c::r,k,h=>by
  by_cases hc:wo c=64
  ·rw[badL,if_pos hc]at h;omega
  ·rw[badL,if_neg hc]at h
   match k with
   |0=>exact hc
   |k+1=>exact zkj r k (by omega)
theorem badL_bad: ∀(l:List Int),badL l<l.length→wo (l.getD (badL l) 0)=64
 |[],h=>absurd h (by simp)
 |c::r,h=>by
  by_cases hc:wo c=64
  ·rw[badL,if_pos hc];exact hc
  ·rw[badL,if_neg hc]at h⊢
   exact badL_bad r (by simpa using h)
def zia (l:List Int):Int:=wo (l.getD (l.length-1) 0)%(if l.length%4=2 then 16 else 4)
def zay (l:List Int):Int:=
 if badL l<l.length then(badL l:Int)else if l.length%4=0 then-1 else if l.length%4=1 then(l.length:Int)else if zia l=0 then-1 else(l.length:Int)-1
theorem zba: ∀l:List Int,(encL l).length=(8*l.length+5)/6
 |[]=>rfl
 |[_]=>by simp[encL]
 |[_,_]=>by simp[encL]
 |a::b::c::r=>by
  have:=zba r
  simp only[encL,List.length_cons]
  omega
theorem zgg: ∀(x y:List Int),x.length%3=0→encL (x++y)=encL x++encL y
 |[],y,_=>rfl
 |[_],y,h=>by simp at h
 |[_,_],y,h=>by simp at h
 |a::b::c::r,y,h=>by
  simp only[List.cons_append,encL,zgg r y (by simp at h;omega)]
theorem zkd: ∀(x y:List Int),x.length%4=0→decL (x++y)=decL x++decL y
 |[],y,_=>rfl
 |[_],y,h=>by simp at h
 |[_,_],y,h=>by simp at h
 |[_,_,_],y,h=>by simp at h
 |a::b::c::d::r,y,h=>by
  simp only[List.cons_append,decL,zkd r y (by simp at h;omega)]
theorem zdv: ∀l:List Int,(decL l).length=l.length*6/8
 |[]=>rfl
 |[_]=>by simp[decL]
 |[_,_]=>by simp[decL]
 |[_,_,_]=>by simp[decL]
 |a::b::c::d::r=>by
  have:=zdv r
  simp only[decL,List.length_cons]
  omega
def Byt (l:List Int):Prop:= ∀x∈l,0≤x∧x≤255
theorem zgQ: ∀(l:List Int),Byt l→ ∀c∈encL l,∃n:Int,0≤n∧n<64∧c=sg n
 |[],_,c,hc=>by simp[encL]at hc
 |[a],h,c,hc=>by
  have ha:=h a (by simp)
  simp only[encL,List.mem_cons,List.not_mem_nil,or_false]at hc
  rcases hc with rfl|rfl
  ·exact⟨_,by omega,by omega,rfl⟩
  ·exact⟨_,by omega,by omega,rfl⟩
 |[a,b],h,c,hc=>by
  have ha:=h a (by simp)
  have hb:=h b (by simp)
  simp only[encL,List.mem_cons,List.not_mem_nil,or_false]at hc
  rcases hc with rfl|rfl|rfl
  ·exact⟨_,by omega,by omega,rfl⟩
  ·exact⟨_,by omega,by omega,rfl⟩
  ·exact⟨_,by omega,by omega,rfl⟩
 |a::b::d::r,h,c,hc=>by
  have ha:=h a (by simp)
  have hb:=h b (by simp)
  have hd:=h d (by simp)
  simp only[encL,List.mem_cons]at hc
  rcases hc with rfl|rfl|rfl|rfl|hc
  ·exact⟨_,by omega,by omega,rfl⟩
  ·exact⟨_,by omega,by omega,rfl⟩
  ·exact⟨_,by omega,by omega,rfl⟩
  ·exact⟨_,by omega,by omega,rfl⟩
  ·exact zgQ r (fun x hx=>h x (by simp[hx])) c hc
theorem zfl: ∀(l:List Int),Byt l→decL (encL l)=l
 |[],_=>rfl
 |[a],h=>by
  have ha:=h a (by simp)
  simp only[encL,decL,zie (a/4) (by omega),zie (a%4*16) (by omega)]
  congr 1;omega
 |[a,b],h=>by
  have ha:=h a (by simp)
  have hb:=h b (by simp)
  simp only[encL,decL,zie (a/4) (by omega),zie (a%4*16+b/16) (by omega),zie (b%16*4) (by omega)]
  congr 1
  ·omega
  ·congr 1;omega
 |a::b::c::r,h=>by
  have ha:=h a (by simp)
  have hb:=h b (by simp)
  have hc:=h c (by simp)
  simp only[encL,decL,zie (a/4) (by omega),zie (a%4*16+b/16) (by omega),zie (b%16*4+c/64) (by omega),zie (c%64) (by omega),zfl r (fun x hx=>h x (by simp[hx]))]
  congr 1
  ·omega
  ·congr 1
   ·omega
   ·congr 1;omega
theorem badL_all: ∀(l:List Int),(∀c∈l,wo c≠64)→badL l=l.length
 |[],_=>rfl
 |c::r,h=>by rw[badL,if_neg (h c (by simp)),badL_all r (fun x hx=>h x (by simp[hx]))];rfl
theorem zii (x y:List Int) (h:y≠[]):(x++y).getD ((x++y).length-1) 0=y.getD (y.length-1) 0:=by
 have:0<y.length:=by rcases y with _|_<;>simp_all
 simp only[List.getD_eq_getElem?_getD,List.length_append]
 rw[List.getElem?_append_right (by omega)]
 congr 2;omega
theorem zlu: ∀(l:List Int),Byt l→(encL l).length%4≠0→zia (encL l)=0
 |[],_,h=>absurd rfl h
 |[a],h,_=>by
  have ha:=h a (by simp)
  show wo (sg (a%4*16))%16=0
  rw[zie _ (by omega)];omega
 |[a,b],h,_=>by
  have ha:=h a (by simp)
  have hb:=h b (by simp)
  show wo (sg (b%16*4))%4=0
  rw[zie _ (by omega)];omega
 |a::b::c::r,h,hl=>by
  have ih:=zlu r (fun x hx=>h x (by simp[hx])) (by simp only[encL,List.length_cons]at hl;omega)
  have hne:encL r≠[]:=by
   intro e
   rw[encL,e]at hl
   simp at hl
  have:=zii [sg (a/4),sg (a%4*16+b/16),sg (b%16*4+c/64),sg (c%64)] (encL r) hne
  unfold zia at ih⊢
  have e:encL (a::b::c::r)=[sg (a/4),sg (a%4*16+b/16),sg (b%16*4+c/64),sg (c%64)]++encL r:=rfl
  rw[e,this]
  have e2:([sg (a/4),sg (a%4*16+b/16),sg (b%16*4+c/64),sg (c%64)]++encL r).length%4=(encL r).length%4:=by simp;omega
  rw[e2];exact ih
theorem zkb (l:List Int) (h:Byt l):zay (encL l)= -1:=by
 have h1:badL (encL l)=(encL l).length:=badL_all _ fun c hc=>by
  obtain⟨n,h0,h1,rfl⟩:=zgQ l h c hc
  rw[zie n ⟨h0,h1⟩];omega
 unfold zay
 rw[if_neg (by omega)]
 by_cases h4:(encL l).length%4=0
 ·rw[if_pos h4]
 ·rw[if_neg h4,if_neg (by rw[zba];omega),if_pos (zlu l h h4)]
inductive J where
 |mk (kind n:Int) (s:ByteArray) (l:List J) (k:List ByteArray)
def J.kind:J→Int| .mk k _ _ _ _=>k
def J.n:J→Int| .mk _ n _ _ _=>n
def J.s:J→ByteArray| .mk _ _ s _ _=>s
def J.l:J→List J| .mk _ _ _ l _=>l
def J.k:J→List ByteArray| .mk _ _ _ _ k=>k
def RepK (W:World) (k:List ByteArray) (v:Value):Prop:=
 ∃A c,v= .slice A k.length c∧k.length≤9223372036854775807∧(k≠[]→ ∃b o,A=some ⟨b,o,none⟩∧b<W.heap.size∧ ∀i,i<k.length→ ∃t,k[i]? =some t∧t.size≤9223372036854775807∧W.cell? ⟨b,o+i,none⟩=some (.string t))
def Five (W:World) (b o:Nat) (v:Value):Prop:=
 ∃a0 a1 a2 a3 a4,v= .agg #[a0,a1,a2,a3,a4]∧W.cell? ⟨b,o,none⟩=some a0∧W.cell? ⟨b,o+1,none⟩=some a1∧W.cell? ⟨b,o+2,none⟩=some a2∧W.cell? ⟨b,o+3,none⟩=some a3∧W.cell? ⟨b,o+4,none⟩=some a4
mutual
def RepJ (W:World):J→Value→Prop
 | .mk kind n s l k,v=> ∃vk A c,v= .agg #[.int .i64 kind,.int .i64 n,.string s,.slice A l.length c,vk]∧s.size≤9223372036854775807∧RepK W k vk∧l.length≤9223372036854775807∧
  (l≠[]→ ∃b o,A=some ⟨b,o,none⟩∧b<W.heap.size∧RepC W b o l)
def RepC (W:World) (b o:Nat):List J→Prop
 |[]=>True
 |x::r=>(∃v,RepJ W x v∧Five W b o v)∧RepC W b (o+5) r
end
theorem J.ind {P:J→Prop} (h: ∀kind n s l k,(∀x∈l,P x)→P (.mk kind n s l k)): ∀j,P j
 | .mk kind n s l k=>h kind n s l k (go l)
where go: ∀l:List J,∀x∈l,P x
 |[],x,hx=>by cases hx
 |y::r,x,hx=>by
  rcases List.mem_cons.1 hx with e|hx
  ·rw[e];exact J.ind h y
  ·exact go r x hx
theorem RepK.below {W W':World} {k:List ByteArray} {v:Value} (h:RepK W k v) (hb:Below W.heap.size W W'):RepK W' k v:=by
 obtain⟨A,c,e,hl,hc⟩:=h
 refine⟨A,c,e,hl,fun hne=> ?_⟩
 obtain⟨b,o,e1,hlt,hcs⟩:=hc hne
 refine⟨b,o,e1,Nat.lt_of_lt_of_le hlt hb.size,fun i hi=> ?_⟩
 obtain⟨t,h1,h2,h3⟩:=hcs i hi
 exact⟨t,h1,h2,(hb.cell (p:=⟨b,o+i,none⟩) hlt).trans h3⟩
theorem Five.below {W W':World} {b o:Nat} {v:Value} (h:Five W b o v) (hlt:b<W.heap.size) (hb:Below W.heap.size W W'):Five W' b o v:=by
 obtain⟨a0,a1,a2,a3,a4,e,h0,h1,h2,h3,h4⟩:=h
 exact⟨a0,a1,a2,a3,a4,e,(hb.cell (p:=⟨b,o,none⟩) hlt).trans h0,(hb.cell (p:=⟨b,o+1,none⟩) hlt).trans h1,(hb.cell (p:=⟨b,o+2,none⟩) hlt).trans h2,(hb.cell (p:=⟨b,o+3,none⟩) hlt).trans h3,(hb.cell (p:=⟨b,o+4,none⟩) hlt).trans h4⟩
theorem RepJ.below {W W':World} (hb:Below W.heap.size W W'): ∀(j:J) (v:Value),RepJ W j v→RepJ W' j v:=fun j=>by
 induction j using J.ind with
 |h kind n s l k ih=>
  intro v h
  rw[RepJ]at h⊢
  obtain⟨vk,A,c,e,hs,hk,hl,hc⟩:=h
  refine⟨vk,A,c,e,hs,hk.below hb,hl,fun hne=> ?_⟩
  obtain⟨b,o,e1,hlt,hcs⟩:=hc hne
  refine⟨b,o,e1,Nat.lt_of_lt_of_le hlt hb.size,?_⟩
  have key: ∀(l:List J) (o:Nat),(∀x∈l,∀v,RepJ W x v→RepJ W' x v)→RepC W b o l→RepC W' b o l:=fun l=>by
   induction l with
   |nil=>intro o _ _;rw[RepC];trivial
   |cons x r ihr=>
    intro o ih h
    rw[RepC]at h⊢
    obtain⟨⟨v,h1,h2⟩,h3⟩:=h
    exact⟨⟨v,ih x (by simp) v h1,h2.below hlt hb⟩,ihr (o+5) (fun y hy=>ih y (List.mem_cons_of_mem _ hy)) h3⟩
  exact key l o ih hcs
theorem RepC.at {W:World} {b:Nat}: ∀{l:List J} {o:Nat},RepC W b o l→ ∀i (hi:i<l.length),∃v,RepJ W l[i] v∧Five W b (o+i*5) v
 |x::r,o,h,0,_=>by rw[RepC]at h;rw[Nat.zero_mul];exact h.1
 |x::r,o,h,i+1,hi=>by
  rw[RepC]at h
  have:=h.2.at i (by simpa using hi)
  rw[show o+5+i*5=o+(i+1)*5 by omega]at this
  exact this
mutual
def zgq:J→J→Bool
 | .mk k1 n1 s1 l1 m1,.mk k2 n2 s2 l2 m2=>decide (k1=k2)&&decide (n1=n2)&&decide (s1=s2)&&decide (m1=m2)&&zdt l1 l2
def zdt:List J→List J→Bool
 |[],[]=>true
 |x::r,y::t=>zgq x y&&zdt r t
 |_,_=>false
end
def isD (c:Int):Bool:=decide (48≤c∧c≤57)
theorem isD_iff {c:Int}:isD c=true↔48≤c∧c≤57:=by unfold isD;rw[decide_eq_true_eq]
theorem isD_false {c:Int}:isD c=false↔ ¬(48≤c∧c≤57):=by unfold isD;rw[decide_eq_false_iff_not]
def digL (n:Nat):List Int:=if h:n<10 then[48+(n:Int)]else digL (n/10)++[48+((n%10:Nat):Int)]
termination_by n
decreasing_by omega
theorem zeW {n:Nat} (h:n<10):digL n=[48+(n:Int)]:=by rw[digL,dif_pos h]
theorem zep {n:Nat} (h: ¬n<10):digL n=digL (n/10)++[48+((n%10:Nat):Int)]:=by rw[digL,dif_neg h]
def prL (n:Int):List Int:=if n<0 then 45::digL n.natAbs else digL n.natAbs
theorem zcm: ∀(n:Nat),∀x∈digL n,48≤x∧x≤57:=fun n=>by
 induction n using Nat.strongRecOn with
 |_ n ih=>
  intro x hx
  by_cases h:n<10
  ·rw[zeW h]at hx
   simp at hx;omega
  ·rw[zep h]at hx
   rcases List.mem_append.1 hx with hx|hx
   ·exact ih (n/10) (by omega) x hx
   ·simp at hx;omega
theorem zhv (n:Nat):digL n≠[]:=by
 by_cases h:n<10
 ·rw[zeW h];simp
 ·rw[zep h];simp
theorem zmW: ∀(n:Nat),0<n→49≤(digL n).getD 0 0:=fun n=>by
 induction n using Nat.strongRecOn with
 |_ n ih=>
  intro hn
  by_cases h:n<10
  ·rw[zeW h];simp;omega
  ·rw[zep h]
   have h1:=ih (n/10) (by omega) (by omega)
   have hne:=zhv (n/10)
   obtain⟨c,r,hc⟩:=List.exists_cons_of_ne_nil hne
   rw[hc]at h1⊢
   simpa using h1
theorem digL_bytes (n:Nat):Bytes (digL n):= .of_mem fun x hx=>by have:=zcm n x hx;omega
theorem prL_bytes (n:Int):Bytes (prL n):=by
 unfold prL
 split
 ·exact .of_mem fun x hx=>by
   rcases List.mem_cons.1 hx with rfl|hx
   ·decide
   ·have:=zcm _ x hx;omega
 ·exact digL_bytes _
theorem zno: ∀(k n:Nat),n<10^(k+1)→(digL n).length≤k+1
 |0,n,h=>by rw[zeW (by simpa using h)];simp
 |k+1,n,h=>by
  by_cases h':n<10
  ·rw[zeW h'];simp
  ·rw[zep h',List.length_append]
   have:=zno k (n/10) (by rw[Nat.pow_succ]at h;omega)
   simp;omega
def valL:List Int→Nat
 |[]=>0
 |l=>l.foldl (fun a c=>a*10+(c-48).toNat) 0
theorem zhe (l:List Int):valL l=l.foldl (fun a c=>a*10+(c-48).toNat) 0:=by cases l<;>rfl
theorem valL_snoc (l:List Int) (c:Int):valL (l++[c])=valL l*10+(c-48).toNat:=by
 rw[zhe,zhe,List.foldl_append];rfl
theorem valL_digL: ∀(n:Nat),valL (digL n)=n:=fun n=>by
 induction n using Nat.strongRecOn with
 |_ n ih=>
  by_cases h:n<10
  ·rw[zeW h]
   show 0*10+(48+(n:Int)-48).toNat=n
   omega
  ·rw[zep h,valL_snoc,ih (n/10) (by omega)]
   omega
def runL:List Int→Nat
 |[]=>0
 |c::r=>if isD c then runL r+1 else 0
theorem zmt: ∀l,runL l≤l.length
 |[]=>Nat.le_refl _
 |c::r=>by
  have:=zmt r
  rw[runL];split<;>simp<;>omega
theorem zle: ∀(l:List Int) (k:Nat),k<runL l→isD (l.getD k 0)=true
 |[],k,h=>absurd h (Nat.not_lt_zero _)
 |c::r,k,h=>by
  rw[runL]at h
  split at h
  ·rename_i hc
   cases k with
   |zero=>exact hc
   |succ k=>exact zle r k (by omega)
  ·exact absurd h (Nat.not_lt_zero _)
def zbK:List Int→Nat
 |[]=>0
 |c::r=>if c=45 then(if 49≤r.getD 0 0∧r.getD 0 0≤57 then runL r+1 else 0)else if c=48 then 1 else runL (c::r)
def zeX (l:List Int):Bool:=decide (l≠[]∧zbK l=l.length)
theorem zfZ: ∀l,zbK l≤l.length
 |[]=>Nat.le_refl _
 |c::r=>by
  have h1:=zmt r
  have h2:=zmt (c::r)
  rw[zbK]
  split
  ·split
   ·simp;omega
   ·simp
  ·split
   ·simp
   ·exact h2
def AllD (l:List Int):Prop:= ∀x∈l,48≤x∧x≤57
theorem AllD.at {l:List Int} (h:AllD l) (k:Nat) (hk:k<l.length):48≤l.getD k 0∧l.getD k 0≤57:=by
 rw[List.getD_eq_getElem?_getD,List.getElem?_eq_getElem hk]
 exact h _ (List.getElem_mem hk)
theorem zis: ∀{l:List Int},AllD l→runL l=l.length
 |[],_=>rfl
 |c::r,h=>by
  rw[runL,if_pos (isD_iff.2 (h c (by simp))),zis (fun x hx=>h x (List.mem_cons_of_mem _ hx))];rfl
theorem znw: ∀{l:List Int},runL l=l.length→AllD l
 |[],_=>fun x hx=>by cases hx
 |c::r,h=>by
  rw[runL]at h
  by_cases hc:isD c=true
  ·rw[if_pos hc]at h
   have:=znw (l:=r) (by simpa using h)
   intro x hx
   rcases List.mem_cons.1 hx with rfl|hx
   ·exact isD_iff.1 hc
   ·exact this x hx
  ·rw[if_neg hc]at h
   simp at h
theorem runL_app: ∀{l:List Int} (e:Int) (r:List Int),AllD l→isD e=false→runL (l++e::r)=l.length
 |[],e,r,_,he=>by rw[List.nil_append,runL,if_neg (by rw[he];decide)];rfl
 |c::l,e,r,h,he=>by
  rw[List.cons_append,runL,if_pos (isD_iff.2 (h c (by simp))),runL_app e r (fun x hx=>h x (List.mem_cons_of_mem _ hx)) he];rfl
theorem zdx {l:List Int} (h:l.getD 0 0≠45):zeX l=true↔AllD l∧(l.length=1∨1<l.length∧l.getD 0 0≠48):=by
 unfold zeX
 rw[decide_eq_true_eq]
 cases l with
 |nil=>simp
 |cons c r=>
  rw[List.getD_cons_zero]at h⊢
  rw[zbK,if_neg h]
  by_cases h48:c=48
  ·rw[if_pos h48]
   constructor
   ·rintro⟨_,h1⟩
    have:r=[]:=List.eq_nil_of_length_eq_zero (by simpa using h1.symm)
    subst this
    exact⟨fun x hx=>by simp at hx;omega,.inl rfl⟩
   ·rintro⟨_,h1|⟨_,h1⟩⟩
    ·exact⟨by simp,h1.symm⟩
    ·exact absurd h48 h1
  ·rw[if_neg h48]
   constructor
   ·rintro⟨_,h1⟩
    refine⟨znw h1,?_⟩
    cases r with
    |nil=>exact .inl rfl
    |cons a t=>exact .inr ⟨by simp,h48⟩
   ·rintro⟨h1,_⟩
    exact⟨by simp,zis h1⟩
theorem zmX (r:List Int):zeX (45::r)=true↔r≠[]∧r.getD 0 0≠48∧r.getD 0 0≠45∧zeX r=true:=by
 have hl:zbK (45::r)=if 49≤r.getD 0 0∧r.getD 0 0≤57 then runL r+1 else 0:=by rw[zbK,if_pos rfl]
 have h0:zeX (45::r)=true↔zbK (45::r)=r.length+1:=by
  unfold zeX;rw[decide_eq_true_eq];simp
 rw[h0,hl]
 constructor
 ·intro h
  split at h
  ·rename_i hc
   have hne:r≠[]:=fun e=>by rw[e]at hc;simp at hc
   have hall:=znw (l:=r) (by omega)
   refine⟨hne,by omega,by omega,(zdx (by omega)).2 ⟨hall,?_⟩⟩
   have:=List.length_pos_iff.2 hne
   rcases Nat.lt_or_ge 1 r.length with h1|h1
   ·exact .inr ⟨h1,by omega⟩
   ·exact .inl (by omega)
  ·omega
 ·rintro⟨hne,h48,h45,hf⟩
  obtain⟨hall,_⟩:=(zdx h45).1 hf
  have:=hall.at 0 (List.length_pos_iff.2 hne)
  rw[if_pos (by omega),zis hall]
theorem zni: ∀(l:List Int) (a:Nat),l.foldl (fun a c=>a*10+(c-48).toNat) a=a*10^l.length+valL l
 |[],a=>by rw[zhe];simp
 |c::r,a=>by
  rw[List.foldl_cons,zni r,zhe (c::r),List.foldl_cons,zni r,List.length_cons,Nat.pow_succ]
  rw[Nat.add_mul,Nat.zero_mul,Nat.zero_add,Nat.mul_assoc,Nat.mul_comm 10]
  omega
theorem valL_app (a b:List Int):valL (a++b)=valL a*10^b.length+valL b:=by
 rw[zhe,List.foldl_append,zni,←zhe]
theorem valL_take_le (l:List Int) (k:Nat):valL (l.take k)≤valL l:=by
 have h:=valL_app (l.take k) (l.drop k)
 rw[List.take_append_drop]at h
 have:valL (l.take k)*1≤valL (l.take k)*10^(l.drop k).length:=Nat.mul_le_mul_left _ (Nat.pow_pos (by decide))
 omega
def numL (l:List Int):Int:=if l.getD 0 0=45 then-(valL (l.drop 1):Int)else(valL l:Int)
def fitL (l:List Int) (least most:Int):Bool:=decide (-9223372036854775808≤numL l∧numL l≤9223372036854775807∧least≤numL l∧numL l≤most)
theorem zkY {l:List Int} (h:zeX l=true):(l.getD 0 0=45∧AllD (l.drop 1)∧49≤(l.drop 1).getD 0 0∧l=45::l.drop 1)∨(l.getD 0 0≠45∧AllD l∧l≠[]∧(49≤l.getD 0 0∨l.length=1)):=by
 by_cases h45:l.getD 0 0=45
 ·cases l with
  |nil=>simp at h45
  |cons c r=>
   rw[List.getD_cons_zero]at h45
   subst h45
   obtain⟨hne,h1,h2,hf⟩:=(zmX r).1 h
   obtain⟨hall,_⟩:=(zdx h2).1 hf
   have:=hall.at 0 (List.length_pos_iff.2 hne)
   exact .inl ⟨rfl,hall,by show 49≤r.getD 0 0;omega,rfl⟩
 ·obtain⟨hall,h1⟩:=(zdx h45).1 h
  have hne:l≠[]:=fun e=>by subst e;simp at h1
  refine .inr ⟨h45,hall,hne,?_⟩
  rcases h1 with h1|⟨_,h1⟩
  ·exact .inr h1
  ·have:=hall.at 0 (List.length_pos_iff.2 hne)
   exact .inl (by omega)
theorem form_digL (n:Nat):zeX (digL n)=true:=by
 have h1:=zcm n
 have hne:=zhv n
 have h0:=AllD.at (l:=digL n) h1 0 (List.length_pos_iff.2 hne)
 refine(zdx (by omega)).2 ⟨h1,?_⟩
 rcases Nat.eq_zero_or_pos n with h|h
 ·subst h;left;rw[zeW (by decide)];rfl
 ·have:=zmW n h
  rcases Nat.lt_or_ge 1 (digL n).length with h2|h2
  ·exact .inr ⟨h2,by omega⟩
  ·left
   have:=List.length_pos_iff.2 hne
   omega
theorem form_prL (n:Int):zeX (prL n)=true:=by
 unfold prL
 split
 ·rename_i h
  have hpos:0<n.natAbs:=by omega
  have:=zmW n.natAbs hpos
  exact(zmX _).2 ⟨zhv _,by omega,by omega,form_digL _⟩
 ·exact form_digL _
theorem numL_prL (n:Int):numL (prL n)=n:=by
 unfold prL numL
 split
 ·rename_i h
  rw[List.getD_cons_zero,if_pos rfl,List.drop_succ_cons,List.drop_zero,valL_digL];omega
 ·rename_i h
  have h0:=AllD.at (l:=digL n.natAbs) (zcm _) 0 (List.length_pos_iff.2 (zhv _))
  rw[if_neg (by omega),valL_digL];omega
end Go.Proofs.YthbpgdmbcegodaaGreatDoor
namespace Go.Proofs.YthbpgdmbcegodaaGreatDoor
open Go Go.RowKit Go.Maps
theorem strKey:Keyed Tryz.prog 9:=string_keyed Tryz.underlying9
theorem zeroUnit (w:World):(zeroValue 231).run Tryz.prog w= .ok (.agg #[]) w:=by kernel_rfl
theorem run_makeMapN (n:Nat) (w:World):(Instr.makeMap 230 (some (.int .i64 (n:Int)))).run Tryz.prog w= .ok (.map (some w.heap.size)) (w.alloc (.map #[] 0)):=by
 unfold Instr.makeMap
 simp[Sem.run_bind,run_underlying Tryz.underlying230,asInt]
 rfl
def setD (ns:List ByteArray):DataW Unit:=setOf (.agg []) (ns.map fun x=>Lit.string (nmL x))
theorem has_setD (ns:List ByteArray) (x:ByteArray):Maps.has (setD ns) (.string (nmL x))=hasN ns x:=by
 unfold setD
 rw[has_setOf _ _ _ (by intro y hy;obtain⟨z,_,rfl⟩:=List.mem_map.1 hy;trivial),List.any_map]
 unfold hasN
 congr 1
 funext y
 show(Lit.string (nmL y)).sameKey (.string (nmL x))=(y.toList==x.toList)
 rw[zlp,zlp];rfl
theorem setD_snoc (ns:List ByteArray) (x:ByteArray):setD (ns++[x])=(setD ns).put (.string (nmL x)) (.agg []):=by
 unfold setD
 rw[List.map_append,List.map_singleton,setOf_snoc]
theorem keyS (x:ByteArray) (h:x.size≤1000000000):keyOf Tryz.prog 9 (.string x)=some (.string (nmL x)):=Go.WideMaps.keyOf_string_mk Tryz.underlying9 (by unfold maxLen;omega)
def SetAt (w:World) (vb mb:Nat) (ns:List ByteArray):Prop:=w.cell? ⟨vb,0,none⟩=some (.map (some mb))∧vb<w.heap.size∧mb<w.heap.size∧ ∃n,w.ownsMap Tryz.prog 9 unitElem mb n (setD ns)
theorem SetAt.below {w w':World} {vb mb:Nat} {ns:List ByteArray} (h:SetAt w vb mb ns) (hb:Below w.heap.size w w'):SetAt w' vb mb ns:=by
 obtain⟨h1,h2,h3,n,es,clock,h4,h5⟩:=h
 exact⟨(hb.cell (p:=⟨vb,0,none⟩) h2).trans h1,Nat.lt_of_lt_of_le h2 hb.size,Nat.lt_of_lt_of_le h3 hb.size,n,es,clock,by rw[hb.block mb h3];exact h4,h5⟩
theorem isIn_any (vb mb:Nat) (ns:List ByteArray) (x:ByteArray) (w:World) (h:SetAt w vb mb ns) (hx:x.size≤1000000000):
  Calls Tryz.prog 171 #[.string x,.pointer (some ⟨vb,0,none⟩)] w fun e w'=>e= .returned (.bool (hasN ns x))∧Below w.heap.size w w':=by
 obtain⟨h1,h2,h3,n,hown⟩:=h
 have HR:Hid (Maps.has (setD ns) (.string (nmL x))=hasN ns x):=Lib.hid (has_setD ns x)
 have HOW:=Lib.hid hown
 have HK:=Lib.hid (keyS x hx)
 have HB:=Lib.hid (fun o=>zad w o)
 clear hown
 go_enter Tryz.func171,Tryz.ntmps171
 go_wp2_with(at_lookup;refine wpList_lookup_own_unit _ rfl _ _ 230 rfl 9 231 strKey Tryz.underlying230 (zeroUnit _) mb n _ rfl HOW.out _ _ rfl HK.out ?_;rw[HR.out])
 go_ret
 exact⟨rfl,HB.out _⟩
theorem among_any (v:Value) (ns:List ByteArray) (w:World) (h:SliceN w v ns) (hn:ns.length≤1000000000):
  Calls Tryz.prog 138 #[v] w fun e w'=> ∃vb mb,e= .returned (.func (.func 171) #[] #[.pointer (some ⟨vb,0,none⟩)])∧w.heap.size≤vb∧SetAt w' vb mb ns∧Below w.heap.size w w':=by
 obtain⟨A,c,rfl,hc,hl,hok⟩:=h
 obtain⟨n,hnn⟩: ∃n,n=ns.length:=⟨_,rfl⟩
 rw[←hnn]at hc hn⊢
 have HN:=Lib.hid hnn
 have HL:=Lib.hid hl
 have HOK:=Lib.hid hok
 have hmm:=run_makeMapN n
 have HM0:Hid (∀W:World,(W.alloc (.map #[] 0)).ownsMap Tryz.prog 9 unitElem W.heap.size 0 (setD [])):=Lib.hid (fun W=>World.ownsMap_made _ _ _ _)
 clear hnn hl hok
 go_enter Tryz.func138,Tryz.ntmps138
 go_wp2
 go_loopw[11] (fun i wr=> ∃k:Nat,k≤n∧i= .int .i64 (k:Int)∧wr.ownsMap Tryz.prog 9 unitElem w.heap.size k (setD (ns.take k))∧wr.cell? ⟨w.heap.size+1,0,none⟩=some (.map (some w.heap.size))∧Below w.heap.size w wr∧w.heap.size+2≤wr.heap.size) (fun i _=>n-(intOf i).toNat)
 case atStart=>
  refine⟨0,Nat.zero_le _,rfl,?_,by simp,?_,by simp⟩
  ·rw[List.take_zero]
   exact(HM0.out w).alloc _
  ·exact(zad w _).alloc (by simp) _
 case round=>
  obtain⟨k,hk,rfl,hown,hvar,hbel,hsz⟩:=hrel
  have HOW:=Lib.hid hown
  have HBE:=Lib.hid hbel
  clear hown hbel
  by_cases hlt:k<n
  ·have hkl:k<ns.length:=by rw[←HN.out];exact hlt
   obtain⟨b,o,rfl,_,hcell⟩:=(HL.out.below HBE.out).at hkl
   have hi0:(0:Int)≤(k:Int):=by omega
   have HST:Hid (setD (ns.take (k+1))=(setD (ns.take k)).put (.string (nmL ns[k])) (.agg [])):=Lib.hid (by rw[List.take_succ_eq_append_getElem hkl,setD_snoc])
   have HK:=Lib.hid (keyS ns[k] (HOK.out _ (List.getElem_mem hkl)))
   obtain⟨x,hx⟩: ∃x,x=ns[k]:=⟨_,rfl⟩
   rw[←hx]at hcell HST HK
   clear hx hkl
   go_wp2_with(at_mapUpdate;refine wpList_mapUpdate_own _ rfl _ _ _ 230 rfl 9 231 strKey Tryz.underlying230 (unitElem (H:=Unit)) w.heap.size k _ rfl HOW.out (by unfold maxLen;omega) _ _ _ rfl rfl HK.out _ [] unitElem_mk ?_;intro w1 hown1 hgrow1)
   have h1:=hgrow1.size
   have hv1:w1.cell? ⟨w.heap.size+1,0,none⟩=some (.map (some w.heap.size)):=by
    rw[←hvar];unfold World.cell?
    rw[hgrow1.block (w.heap.size+1) (by omega) (by simp)]
   go_roundw
   case rel=>exact⟨k+1,by omega,by go_num,by rw[HST.out];exact hown1,hv1,HBE.out.grown hgrow1 HBE.out.size (fun j hj=>by cases hj;exact Nat.le_refl _),by omega⟩
   case measure=>simp[intOf];omega
  ·obtain rfl:k=n:=by omega
   have HT:Hid (ns.take k=ns):=Lib.hid (by rw[HN.out];exact List.take_length)
   clear hlt
   go_wp2
   go_ret
   refine⟨w.heap.size+1,w.heap.size,rfl,by omega,⟨hvar,by omega,by omega,k,?_⟩,HBE.out⟩
   have:=HOW.out
   rwa [HT.out]at this
end Go.Proofs.YthbpgdmbcegodaaGreatDoor
namespace Go.Proofs.YthbpgdmbcegodaaGreatDoor
open Go Go.RowKit Go.Shelf
theorem enterIn: ∀args w,(callFunc 171 args).run Tryz.prog w= .ok (.enter 171 args) w:=enters_of Tryz.func171 (by kernel_rfl) rfl
theorem within_lies (A:Option Addr) (c:Nat) (vb:Value) (a b:List ByteArray) (w:World) (hl:LiesN w A a) (hok:NmOk a) (hb:SliceN w vb b) (hn:a.length≤1000000000) (hn2:b.length≤1000000000):
  Calls Tryz.prog 100 #[.slice A a.length c,vb] w fun e w'=>e= .returned (.bool (a.all (hasN b)))∧Below w.heap.size w w':=by
 obtain⟨n,hnn⟩: ∃n,n=a.length:=⟨_,rfl⟩
 rw[←hnn]at hn⊢
 have HN:=Lib.hid hnn
 have HL:=Lib.hid hl
 have HOK:=Lib.hid hok
 have HM:=Lib.hid (among_any vb b w hb hn2)
 have eg:=enterIn
 obtain⟨R,hR⟩: ∃R,R=a.all (hasN b):=⟨_,rfl⟩
 rw[←hR]
 have HR:=Lib.hid hR
 clear hb hnn hl hok hR
 go_enter Tryz.func100,Tryz.ntmps100
 go_wp2_with fail
 refine HM.out.mono ?_
 rintro e w1 ⟨bx,mb,rfl,hvb,hset,hb1⟩
 have HSET:=Lib.hid hset
 have HB1:=Lib.hid hb1
 clear hset hb1 HM
 go_wp2
 go_loopw[12] (fun i wr=> ∃k:Nat,k≤n∧i= .int .i64 (k:Int)∧R=(a.drop k).all (hasN b)∧Below w1.heap.size w1 wr) (fun i _=>n-(intOf i).toNat)
 case atStart=>exact⟨0,Nat.zero_le _,rfl,HR.out,Below.refl _ _⟩
 case round=>
  obtain⟨k,hk,rfl,hrun,hbel⟩:=hrel
  have HBE:=Lib.hid hbel
  have HRUN:=Lib.hid hrun
  clear hbel hrun
  by_cases hlt:k<n
  ·have hkl:k<a.length:=by rw[←HN.out];exact hlt
   obtain⟨b',o,rfl,_,hcell⟩:=((HL.out.below HB1.out).below HBE.out).at hkl
   have hi0:(0:Int)≤(k:Int):=by omega
   have HD:Hid (a.drop k=a[k]::a.drop (k+1)):=Lib.hid (List.drop_eq_getElem_cons hkl)
   have HIN:=Lib.hid (isIn_any bx mb b a[k] wr (HSET.out.below HBE.out) (HOK.out _ (List.getElem_mem hkl)))
   obtain⟨x,hx⟩: ∃x,x=a[k]:=⟨_,rfl⟩
   rw[←hx]at hcell HD HIN
   clear hx hkl
   cases hp:hasN b x with
   |true=>
    rw[hp]at HIN
    have HST:Hid (R=(a.drop (k+1)).all (hasN b)):=Lib.hid (by rw[HRUN.out,HD.out,List.all_cons,hp,Bool.true_and])
    clear hp
    go_wp2_with fail
    refine HIN.out.mono ?_
    rintro e w2 ⟨rfl,hb2⟩
    have HB2:=Lib.hid (HBE.out.trans (hb2.mono HBE.out.size))
    clear hb2
    go_wp2
    go_roundw
    case rel=>exact⟨k+1,by omega,by go_num,HST.out,HB2.out⟩
    case measure=>simp[intOf];omega
   |false=>
    rw[hp]at HIN
    have HST:Hid (R=false):=Lib.hid (by rw[HRUN.out,HD.out,List.all_cons,hp,Bool.false_and])
    clear hp
    go_wp2_with fail
    refine HIN.out.mono ?_
    rintro e w2 ⟨rfl,hb2⟩
    have HB2:=Lib.hid (HBE.out.trans (hb2.mono HBE.out.size))
    clear hb2
    go_wp2
    go_ret
    exact⟨zcW HST.out.symm,HB1.out.trans (HB2.out.mono HB1.out.size)⟩
  ·obtain rfl:k=n:=by omega
   have HST:Hid (R=true):=Lib.hid (by rw[HRUN.out,HN.out,List.drop_length];rfl)
   clear hlt
   go_wp2
   go_ret
   exact⟨zcW HST.out.symm,HB1.out.trans (HBE.out.mono HB1.out.size)⟩
end Go.Proofs.YthbpgdmbcegodaaGreatDoor
