
import Derived.Lib.Split
import Derived.Lib.Join
import Derived.Deep.RegionHeld3
import Derived.Test.YtceddodfddlncaaGreatDoorJb01
set_option maxRecDepth 100000
set_option maxHeartbeats 16000000
set_option linter.all false
namespace Go.Proofs.YtceddodfddlncaaGreatDoor
open Go Go.RowKit
abbrev KeyM:=ByteArray×ByteArray
def zjm (k:KeyM):Bool:=zbJ (strL k.1)&&decide (1≤k.2.size∧k.2.size≤128)
def zec (ks:List KeyM) (t:ByteArray):Bool:=ks.any fun k=>decide (k.1=t)
def znn (ks:List KeyM):Nat→Bool
 |0=>true
 |i+1=>znn ks i&&(match ks[i]? with
  |none=>true
  |some k=>zjm k&& !zec (ks.take i) k.1)
def zbn (ks:List KeyM):Bool:=decide (1≤ks.length∧ks.length≤4)&&znn ks ks.length
theorem zgV {ks:List KeyM} {i:Nat} (h:i<ks.length):znn ks (i+1)=(znn ks i&&(zjm ks[i]&& !zec (ks.take i) ks[i].1)):=by
 rw[znn,List.getElem?_eq_getElem h]
theorem ziz {ks:List KeyM}: ∀{i j:Nat},i≤j→znn ks j=true→znn ks i=true
 |i,0,h,hj=>by rw[Nat.le_zero.1 h];exact hj
 |i,j+1,h,hj=>by
  rcases Nat.lt_or_ge j i with h'|h'
  ·rw[show i=j+1 by omega];exact hj
  ·rw[znn,Bool.and_eq_true]at hj
   exact ziz h' hj.1
theorem ring_bad {ks:List KeyM} {i:Nat} (h:i<ks.length) (hb:(zjm ks[i]&& !zec (ks.take i) ks[i].1)=false):zbn ks=false:=by
 cases hr:zbn ks with
 |false=>rfl
 |true=>
  unfold zbn at hr
  rw[Bool.and_eq_true]at hr
  have:=ziz (i:=i+1) h hr.2
  rw[zgV h,hb,Bool.and_false]at this
  cases this
theorem zbl {ks:List KeyM} (h:zbn ks=true):1≤ks.length∧ks.length≤4∧ ∀k∈ks,zbJ (strL k.1)=true∧1≤k.2.size∧k.2.size≤128:=by
 unfold zbn at h
 rw[Bool.and_eq_true,decide_eq_true_eq]at h
 refine⟨h.1.1,h.1.2,fun k hk=> ?_⟩
 obtain⟨i,hi,rfl⟩:=List.mem_iff_getElem.1 hk
 have:=ziz (i:=i+1) hi h.2
 rw[zgV hi,Bool.and_eq_true,Bool.and_eq_true]at this
 have:=this.2.1
 unfold zjm at this
 rw[Bool.and_eq_true,decide_eq_true_eq]at this
 exact this
theorem ring_len {ks:List KeyM} (h: ¬(1≤ks.length∧ks.length≤4)):zbn ks=false:=by
 unfold zbn;rw[decide_eq_false h,Bool.false_and]
theorem zcW {s:ByteArray} (h:zbJ (strL s)=true):1≤s.size∧s.size≤32:=by
 have:=nameB_len h;rw[zaQ]at this;exact this
def zex (ks:List KeyM) (k:KeyM):List KeyM:=(if ks.length=4 then ks.drop 1 else ks)++[k]
def rotB (ks:List KeyM) (k:KeyM):Bool:=zbn ks&&zbn (zex ks k)
def zdX:List Int→List (List Int)
 |[]=>[[]]
 |c::r=>if c=46 then[]::zdX r else
  match zdX r with
  |p::ps=>(c::p)::ps
  |[]=>[[c]]
theorem znq: ∀l:List Int,zdX l≠[]
 |[]=>by simp[zdX]
 |c::r=>by
  unfold zdX
  split
  ·simp
  ·split<;>simp
theorem zet: ∀(a b:List Int),46 ∉ a→zdX (a++46::b)=a::zdX b
 |[],b,_=>by simp[zdX]
 |c::r,b,h=>by
  have hc: ¬c=46:=fun e=>h (by simp[e])
  have ih:=zet r b (fun k=>h (List.mem_cons_of_mem _ k))
  rw[List.cons_append,zdX,if_neg hc,ih]
theorem zgY: ∀(a:List Int),46 ∉ a→zdX a=[a]
 |[],_=>rfl
 |c::r,h=>by
  have hc: ¬c=46:=fun e=>h (by simp[e])
  rw[zdX,if_neg hc,zgY r (fun k=>h (List.mem_cons_of_mem _ k))]
theorem zeu: ∀(l p:List Int),p∈zdX l→46 ∉ p∧(∀x∈p,x∈l)∧p.length≤l.length
 |[],p,h=>by simp[zdX]at h;subst h;simp
 |c::r,p,h=>by
  rw[zdX]at h
  split at h
  ·rcases List.mem_cons.1 h with rfl|h
   ·simp
   ·obtain⟨h1,h2,h3⟩:=zeu r p h
    exact⟨h1,fun x hx=>List.mem_cons_of_mem _ (h2 x hx),by simp;omega⟩
  ·rename_i hc
   split at h
   ·rename_i q qs e
    rcases List.mem_cons.1 h with rfl|h
    ·obtain⟨h1,h2,h3⟩:=zeu r q (by rw[e];simp)
     refine⟨fun k=> ?_,fun x hx=> ?_,by simp;omega⟩
     ·rcases List.mem_cons.1 k with k|k
      ·exact hc k.symm
      ·exact h1 k
     ·rcases List.mem_cons.1 hx with rfl|hx
      ·simp
      ·exact List.mem_cons_of_mem _ (h2 x hx)
    ·obtain⟨h1,h2,h3⟩:=zeu r p (by rw[e];exact List.mem_cons_of_mem _ h)
     exact⟨h1,fun x hx=>List.mem_cons_of_mem _ (h2 x hx),by simp;omega⟩
   ·rename_i e;exact absurd e (znq r)
theorem dotsL_three: ∀{l a b c:List Int},zdX l=[a,b,c]→l=a++46::(b++46::c):=by
 have one: ∀(l p:List Int) (ps:List (List Int)),zdX l=p::ps→(ps=[]∧l=p)∨ ∃r,l=p++46::r∧zdX r=ps:=by
  intro l
  induction l with
  |nil=>intro p ps h;simp[zdX]at h;exact .inl ⟨h.2,h.1.symm⟩
  |cons x r ih=>
   intro p ps h
   rw[zdX]at h
   split at h
   ·rename_i hx;injection h with h1 h2;exact .inr ⟨r,by rw[←h1,hx];rfl,h2⟩
   ·split at h
    ·rename_i q qs e
     injection h with h1 h2
     rcases ih q qs e with⟨a1,a2⟩|⟨r',a1,a2⟩
     ·exact .inl ⟨by rw[←h2,a1],by rw[←h1,a2]⟩
     ·exact .inr ⟨r',by rw[←h1,a1];rfl,by rw[a2,h2]⟩
    ·rename_i e;exact absurd e (znq r)
 intro l a b c h
 rcases one l a _ h with⟨e,_⟩|⟨r,e1,h1⟩
 ·cases e
 rcases one r b _ h1 with⟨e,_⟩|⟨t,e2,h2⟩
 ·cases e
 rcases one t c _ h2 with⟨_,e3⟩|⟨u,_,h3⟩
 ·rw[e1,e2,e3]
 ·exact absurd h3 (znq u)
theorem zmZ (c:UInt8): ∀l:List UInt8,(Lib.indexByte l c= -1∧c ∉ l)∨ ∃a b,l=a++c::b∧c ∉ a∧Lib.indexByte l c=a.length
 |[]=> .inl ⟨rfl,by simp⟩
 |b::l=>by
  unfold Lib.indexByte
  by_cases h:b=c
  ·subst h
   exact .inr ⟨[],l,rfl,by simp,by simp⟩
  ·have hb:(b==c)=false:=beq_eq_false_iff_ne.2 h
   have h': ¬c=b:=fun e=>h e.symm
   rcases zmZ c l with⟨h1,h2⟩|⟨a,b',h1,h2,h3⟩
   ·exact .inl ⟨by rw[hb,h1];rfl,by simp[h',h2]⟩
   ·refine .inr ⟨b::a,b',by rw[h1];rfl,by simp[h',h2],?_⟩
    have hn:((a.length:Int)== -1)=false:=by rw[beq_eq_false_iff_ne];omega
    rw[hb,h3]
    simp[hn]
def nUd (b:UInt8):Int:=(b.toNat:Int)
theorem nUd_inj {a b:UInt8} (h:nUd a=nUd b):a=b:=UInt8.toNat_inj.1 (by unfold nUd at h;omega)
theorem zjv {c:UInt8} {l:List UInt8} (h:c ∉ l):nUd c ∉ l.map nUd:=fun k=>by
 obtain⟨x,hx,e⟩:=List.mem_map.1 k
 exact h (nUd_inj e▸hx)
theorem zjb: ∀(n:Nat) (l:List UInt8),l.length≤n→(Lib.splitK [46] 0 (Lib.count l [46]) l).map (·.map nUd)=zdX (l.map nUd)
 |n,l,hn=>by
  rcases zmZ 46 l with⟨h1,h2⟩|⟨a,b,h1,h2,h3⟩
  ·have hi:Lib.index l [46]= -1:=(Lib.index_one _ _).trans h1
   rw[Lib.count_miss hi]
   have:=zjv h2
   rw[show nUd 46=46 from rfl]at this
   rw[zgY _ this];rfl
  ·have hi:Lib.index l [46]=(a.length:Int):=(Lib.index_one _ _).trans h3
   have hd:l.drop (a.length+1)=b:=by rw[h1,List.drop_append];simp
   have ht:l.take a.length=a:=by rw[h1,List.take_left]
   rw[Lib.count_hit (by simp) hi,Nat.add_comm,Lib.splitK]
   have hne: ¬(Lib.index l [46]== -1)=true:=by rw[hi,beq_iff_eq];omega
   rw[if_neg hne,hi]
   simp only[Int.toNat_natCast,Nat.add_zero,List.length_singleton,ht,hd,List.map_cons]
   have hlen:l.length=a.length+(b.length+1):=by rw[h1];simp
   match n,hn with
   |0,hn=>omega
   |n+1,hn=>
    rw[zjb n b (by omega),h1,List.map_append,List.map_cons]
    have:=zjv h2
    rw[show nUd 46=46 from rfl]at this
    rw[show nUd 46=46 from rfl,zet _ _ this]
theorem split_dots (s sep:ByteArray) (hs:sep.data.toList=[46]):(Lib.splitB sep 0 (Lib.countB s sep) s).map strL=zdX (strL s):=by
 have h:=Lib.splitB_data sep 0 (Lib.countB s sep) s
 rw[hs]at h
 have hc:Lib.countB s sep=Lib.count s.data.toList [46]:=by rw[←hs]
 rw[hc]at h
 have h2:=zjb _ s.data.toList (Nat.le_refl _)
 rw[←h,List.map_map]at h2
 rw[hc]
 exact h2
theorem rgS:(∀(a:Act) (k:Nat) (v:Value),a.put (some k) v={a with tmps:=a.tmps.setIfInBounds k v})∧(∀(a:Act) (v:Value),a.put none v=a)∧(∀(l:List Value) (i:Nat) (v:Value),l.toArray.setIfInBounds i v=(l.set i v).toArray)∧(∀(x v:Value) (l:List Value),(x::l).set 0 v=v::l)∧(∀(x v:Value) (l:List Value) (i:Nat),(x::l).set (i+1) v=x::l.set i v)∧
  (∀(l:List Oper) (i:Nat) (h:i<l.toArray.size),l.toArray[i]=l[i]'(by simpa using h))∧(∀(l:List Oper) (a:Oper) (i:Nat) (h:i+1<(a::l).length),(a::l)[i+1]=l[i]'(by simpa using h))∧(∀(l:List Oper) (a:Oper) (h:0<(a::l).length),(a::l)[0]=a):=
 ⟨fun _ _ _=>rfl,fun _ _=>rfl,fun _ _ _=>by simp,fun _ _ _=>rfl,fun _ _ _ _=>rfl,fun _ _ _=>by simp,fun _ _ _ _=>rfl,fun _ _ _=>rfl⟩
section
variable {P:Program} {ops:Array Oper} {Q:Exit→Act→World→Prop} {md:Region.Mode} {S:World→Prop} {fuel:Nat} {listed:Array Bool} {a:Act} {w:World}
theorem rgT (i:Nat) {v:Value} {oi:Oper} (h:wpAnyH P md ops Q S fuel (listed.setIfInBounds i true) (a.put oi.dst v) w) (hi:ops[i]? =some oi:=by rfl) (hs:Region.noSelect ops=true:=by kernel_rfl) (hf:Region.free md ops listed i=true:=by kernel_rfl) (hr:(Region.ready md ops listed).contains i=true:=by kernel_rfl)
  (hQ: ∀c a w,Q (.panic c) (a.put oi.dst v) w→Q (.panic c) a w:=by exact fun _ _ _ h=>h) (hw:Region.wanted oi (yielded ops a.tmps)=true:=by rfl) (hy: ∀w,S w→(execOp a.eval oi).run P w= .ok (.value v) w:=by(intro w hSw;first|(go_simp;done)|(go_simp;with_reducible rfl))) (hS:S w:=by assumption):
  wpAnyH P md ops Q S (fuel+1) listed a w:=
 wpAnyH_take hi hs hf hr hQ (Or.inl ⟨hw,hy⟩) hS h
theorem rgU (i:Nat) {oi:Oper} (h:wpAnyH P md ops Q S fuel (listed.setIfInBounds i true) (a.put oi.dst undef) w) (hi:ops[i]? =some oi:=by rfl) (hs:Region.noSelect ops=true:=by kernel_rfl) (hf:Region.free md ops listed i=true:=by kernel_rfl) (hr:(Region.ready md ops listed).contains i=true:=by kernel_rfl)
  (hQ: ∀c a w,Q (.panic c) (a.put oi.dst undef) w→Q (.panic c) a w:=by exact fun _ _ _ h=>h) (hw:Region.wanted oi (yielded ops a.tmps)=false:=by rfl) (hS:S w:=by assumption):
  wpAnyH P md ops Q S (fuel+1) listed a w:=
 wpAnyH_take hi hs hf hr hQ (Or.inr ⟨hw,rfl⟩) hS h
theorem rgO (i:Nat) {o:Oper} (h: ∀K':Act→World→Prop,Shut (∀a w,S w→(S w→wpAnyH P md ops Q S fuel (listed.setIfInBounds i true) a w)→K' a w)→if Region.wanted o (yielded ops a.tmps)=true then Oper.wp P o a w K' Q else K' (a.put o.dst undef) w)
  (hr:Region.ready md ops listed=[i]:=by kernel_rfl) (hi:ops[i]? =some o:=by rfl):wpAnyH P md ops Q S (fuel+1) listed a w:=
 wpAnyH_ready hr (by simp) (AllReadyH.cons hi h AllReadyH.nil)
end
def rotr (x:Int) (k:Nat):Int:=bits .or .u32 (x*2^(32-k)%4294967296) (x/2^k)
theorem bits_u32 (op:BinOp) (x y:Int):0≤bits op .u32 x y∧bits op .u32 x y<4294967296:=by
 unfold bits;simp only[IntKind.wrap_u32];omega
def ziV (x:Int) (i j k:Nat):Int:=bits .xor .u32 (bits .xor .u32 (rotr x i) (rotr x j)) (rotr x k)
def accs (b:List Int):Nat→List Int
 |0=>List.replicate 64 0
 |k+1=>(accs b k).set (k/4) (bits .or .u32 ((accs b k).getD (k/4) 0*256%4294967296) (b.getD k 0))
@[simp] theorem length_accs (b:List Int): ∀k,(accs b k).length=64
 |0=>by simp[accs]
 |k+1=>by simp[accs,length_accs b k]
theorem accs_bd (b:List Int): ∀k i,0≤(accs b k).getD i 0∧(accs b k).getD i 0<4294967296
 |0,i=>by
  simp only[accs,List.getD_eq_getElem?_getD,List.getElem?_replicate]
  split<;>simp
 |k+1,i=>by
  have h:=accs_bd b k i
  simp only[accs,List.getD_eq_getElem?_getD,List.getElem?_set]at h⊢
  split
  ·split
   ·simp only[Option.getD_some];exact bits_u32 _ _ _
   ·simp
  ·exact h
def sig1 (p:Int):Int:=bits .xor .u32 (bits .xor .u32 (rotr p 17) (rotr p 19)) (p/1024)
def sig0 (q:Int):Int:=bits .xor .u32 (bits .xor .u32 (rotr q 7) (rotr q 18)) (q/8)
def zhc (L:List Int) (t:Nat):Int:=(sig1 (L.getD (t-2) 0)+L.getD (t-7) 0+sig0 (L.getD (t-15) 0)+L.getD (t-16) 0)%4294967296
def zbx (b:List Int):Nat→List Int
 |0=>accs b 64
 |n+1=>(zbx b n).set (16+n) (zhc (zbx b n) (16+n))
@[simp] theorem length_sched (b:List Int): ∀k,(zbx b k).length=64
 |0=>by simp[zbx]
 |k+1=>by simp[zbx,length_sched b k]
theorem nextw_bd (L:List Int) (t:Nat):0≤zhc L t∧zhc L t<4294967296:=by unfold zhc;omega
theorem zfz (b:List Int): ∀k i,0≤(zbx b k).getD i 0∧(zbx b k).getD i 0<4294967296
 |0,i=>accs_bd b 64 i
 |k+1,i=>by
  have h:=zfz b k i
  simp only[zbx,List.getD_eq_getElem?_getD,List.getElem?_set]at h⊢
  split
  ·split
   ·simp only[Option.getD_some];exact nextw_bd _ _
   ·simp
  ·exact h
def rootsL:List Int:=[1116352408,1899447441,3049323471,3921009573,961987163,1508970993,2453635748,2870763221,3624381080,310598401,607225278,1426881987,1925078388,2162078206,2614888103,3248222580,3835390401,4022224774,264347078,604807628,770255983,1249150122,1555081692,1996064986,2554220882,2821834349,2952996808,3210313671,3336571891,3584528711,113926993,338241895,666307205,773529912,1294757372,1396182291,1695183700,1986661051,2177026350,2456956037,2730485921,2820302411,3259730800,3345764771,3516065817,3600352804,4094571909,275423344,430227734,506948616,659060556,883997877,958139571,1322822218,1537002063,1747873779,1955562222,2024104815,2227730452,2361852424,2428436474,2756734187,3204031479,3329325298]
theorem zfo:rootsL.length=64:=rfl
def rnd (s:List Int) (kt wt:Int):List Int:=
 match s with
 |[a,b,c,d,e,f,g,h]=>
  [(((h+ziV e 6 11 25+bits .xor .u32 (bits .and .u32 e f) (bits .and .u32 (bits .xor .u32 4294967295 e) g)+kt+wt)%4294967296)+((ziV a 2 13 22+bits .xor .u32 (bits .xor .u32 (bits .and .u32 a b) (bits .and .u32 a c)) (bits .and .u32 b c))%4294967296))%4294967296,
   a,b,c,(d+((h+ziV e 6 11 25+bits .xor .u32 (bits .and .u32 e f) (bits .and .u32 (bits .xor .u32 4294967295 e) g)+kt+wt)%4294967296))%4294967296,e,f,g]
 |s=>s
def rnds (W s:List Int):Nat→List Int
 |0=>s
 |k+1=>rnd (rnds W s k) (rootsL.getD k 0) (W.getD k 0)
def addU (s r:List Int):Nat→List Int
 |0=>s
 |k+1=>(addU s r k).set k (((addU s r k).getD k 0+r.getD k 0)%4294967296)
@[simp] theorem length_addU (s r:List Int): ∀k,(addU s r k).length=s.length
 |0=>rfl
 |k+1=>by simp[addU,length_addU s r k]
theorem addU_bd (s r:List Int) (hs: ∀i,0≤s.getD i 0∧s.getD i 0<4294967296): ∀k i,0≤(addU s r k).getD i 0∧(addU s r k).getD i 0<4294967296
 |0,i=>hs i
 |k+1,i=>by
  have h:=addU_bd s r hs k i
  simp only[addU,List.getD_eq_getElem?_getD,List.getElem?_set]at h⊢
  split
  ·split
   ·simp only[Option.getD_some];omega
   ·simp
  ·exact h
def mixL (s b:List Int):List Int:=addU s (rnds (zbx b 48) s 64) 8
theorem zbc (s b:List Int):(mixL s b).length=s.length:=length_addU _ _ _
theorem zfJ (s b:List Int) (hs: ∀i,0≤s.getD i 0∧s.getD i 0<4294967296) (i:Nat):0≤(mixL s b).getD i 0∧(mixL s b).getD i 0<4294967296:=addU_bd _ _ hs 8 i
def startL:List Int:=[1779033703,3144134277,1013904242,2773480762,1359893119,2600822924,528734635,1541459225]
def HC (sum blk:List Int) (n:Nat):List Value:=ints .u32 sum++(ints .u8 blk++[.int .u64 (n:Int)])
def shr8 (m:Int):Nat→Int
 |0=>m
 |k+1=>shr8 m k/256
def putC (L:List Int) (m:Int):Nat→List Int
 |0=>L
 |k+1=>(putC L m k).set (56+(7-k)) (shr8 m k%256)
@[simp] theorem length_putC (L:List Int) (m:Int): ∀k,(putC L m k).length=L.length
 |0=>rfl
 |k+1=>by simp[putC,length_putC L m k]
theorem putC_bd (L:List Int) (m:Int) (hL: ∀i,0≤L.getD i 0∧L.getD i 0≤255): ∀k i,0≤(putC L m k).getD i 0∧(putC L m k).getD i 0≤255
 |0,i=>hL i
 |k+1,i=>by
  have h:=putC_bd L m hL k i
  simp only[putC,List.getD_eq_getElem?_getD,List.getElem?_set]at h⊢
  split
  ·split
   ·simp only[Option.getD_some];omega
   ·simp
  ·exact h
def sbL (s:List Int):Nat→List Int
 |0=>List.replicate 32 0
 |k+1=>((((sbL s k).set (4*k) (s.getD k 0/16777216)).set (4*k+1) (s.getD k 0/65536%256)).set (4*k+2) (s.getD k 0/256%256)).set (4*k+3) (s.getD k 0%256)
@[simp] theorem length_sbL (s:List Int): ∀k,(sbL s k).length=32
 |0=>by simp[sbL]
 |k+1=>by simp[sbL,length_sbL s k]
theorem set_bd (L:List Int) (n:Nat) (x:Int) (hx:0≤x∧x≤255) (hL: ∀i,0≤L.getD i 0∧L.getD i 0≤255) (i:Nat):0≤(L.set n x).getD i 0∧(L.set n x).getD i 0≤255:=by
 have h:=hL i
 simp only[List.getD_eq_getElem?_getD,List.getElem?_set]at h⊢
 split
 ·split
  ·simp only[Option.getD_some];exact hx
  ·simp
 ·exact h
theorem rep_bd (n:Nat) (i:Nat):0≤(List.replicate n (0:Int)).getD i 0∧(List.replicate n (0:Int)).getD i 0≤255:=by
 simp only[List.getD_eq_getElem?_getD,List.getElem?_replicate]
 split<;>simp
theorem sbL_bd (s:List Int) (hs: ∀i,0≤s.getD i 0∧s.getD i 0<4294967296): ∀k i,0≤(sbL s k).getD i 0∧(sbL s k).getD i 0≤255
 |0,i=>rep_bd 32 i
 |k+1,i=>by
  have:=hs k
  unfold sbL
  exact set_bd _ _ _ (by omega) (set_bd _ _ _ (by omega) (set_bd _ _ _ (by omega) (set_bd _ _ _ (by omega) (sbL_bd s hs k)))) i
def Words (l:List Int):Prop:= ∀i,0≤l.getD i 0∧l.getD i 0<4294967296
theorem Bytes.rep (n:Nat):Bytes (List.replicate n 0):=rep_bd n
theorem Words.start:Words startL:=fun i=>
 match i with
 |0|1|2|3|4|5|6|7=>by decide
 |n+8=>by simp[startL]
def zby (bs:List Int):Nat→List Int
 |0=>startL
 |k+1=>mixL (zby bs k) ((bs.drop (64*k)).take 64)
theorem zbr (bs:List Int): ∀k,(zby bs k).length=8
 |0=>rfl
 |k+1=>by rw[zby,zbc,zbr bs k]
theorem zeJ (bs:List Int): ∀k,Words (zby bs k)
 |0=>Words.start
 |k+1=>fun i=>zfJ _ _ (zeJ bs k) i
theorem zdq (bs x:List Int): ∀k,64*k≤bs.length→zby (bs++x) k=zby bs k
 |0,_=>rfl
 |k+1,h=>by
  rw[zby,zby,zdq bs x k (by omega),List.drop_append_of_le_length (by omega),List.take_append_of_le_length (by rw[List.length_drop];omega)]
def HOk (sum blk bs:List Int):Prop:=
 sum.length=8∧Words sum∧blk.length=64∧Bytes blk∧blk.take (bs.length%64)=bs.drop (64*(bs.length/64))∧(64≤bs.length→sum=zby bs (bs.length/64))
theorem HOk.zero:HOk (List.replicate 8 0) (List.replicate 64 0) []:=
 ⟨rfl,fun i=>by have:=rep_bd 8 i;omega,rfl,rep_bd 64,rfl,fun h=>absurd h (by simp)⟩
theorem HOk.soFar {sum blk bs:List Int} (h:HOk sum blk bs):(if bs.length<64 then startL else sum)=zby bs (bs.length/64):=by
 split
 ·rename_i hlt
  rw[show bs.length/64=0 by omega];rfl
 ·exact h.2.2.2.2.2 (by omega)
theorem zhq {sum blk bs:List Int} (h:HOk sum blk bs) (ds:List Int) (hf:bs.length%64+ds.length≤64):
  (splice blk (bs.length%64) ds).take (bs.length%64+ds.length)=(bs++ds).drop (64*(bs.length/64))∧(splice blk (bs.length%64) ds).length=64:=by
 obtain⟨_,_,hb,_,ht,_⟩:=h
 refine⟨?_,length_splice blk (bs.length%64) ds (by omega)|>.trans hb⟩
 rw[splice,←List.append_assoc,List.take_append_of_le_length (by simp;omega),List.take_of_length_le (by simp;omega),ht,List.drop_append_of_le_length (by omega)]
theorem HOk.part {sum blk bs:List Int} (h:HOk sum blk bs) (ds:List Int) (hd:Bytes ds) (hf:bs.length%64+ds.length<64):HOk sum (splice blk (bs.length%64) ds) (bs++ds):=by
 obtain⟨h1,h2⟩:=zhq h ds (by omega)
 obtain⟨hs,hw,hb,hy,ht,ha⟩:=h
 have e1:(bs++ds).length=bs.length+ds.length:=List.length_append
 have e2:(bs.length+ds.length)/64=bs.length/64:=by omega
 have e3:(bs.length+ds.length)%64=bs.length%64+ds.length:=by omega
 refine⟨hs,hw,h2,hy.splice hd _,by rw[e1,e2,e3,h1],fun h64=> ?_⟩
 rw[e1,e2,zdq _ _ _ (by omega)]
 exact ha (by omega)
theorem HOk.full {sum blk bs:List Int} (h:HOk sum blk bs) (ds:List Int) (hd:Bytes ds) (hf:bs.length%64+ds.length=64):
  HOk (mixL (zby bs (bs.length/64)) (splice blk (bs.length%64) ds)) (splice blk (bs.length%64) ds) (bs++ds):=by
 obtain⟨h1,h2⟩:=zhq h ds (by omega)
 obtain⟨hs,hw,hb,hy,ht,ha⟩:=h
 have e1:(bs++ds).length=bs.length+ds.length:=List.length_append
 have e2:(bs.length+ds.length)/64=bs.length/64+1:=by omega
 have e3:(bs.length+ds.length)%64=0:=by omega
 refine⟨by rw[zbc,zbr],fun i=>zfJ _ _ (zeJ _ _) i,h2,hy.splice hd _,?_,fun _=> ?_⟩
 ·rw[e1,e2,e3,List.take_zero,List.drop_eq_nil_of_le (by rw[e1];omega)]
 ·rw[e1,e2,zby,zdq _ _ _ (by omega),←h1,hf,List.take_take,show min 64 64=64 from rfl,List.take_of_length_le (by omega)]
def padB (rest:List Int):List Int:=rest++(128::List.replicate (63-rest.length) 0)
def finL (bs:List Int):List Int:=
 if 64-bs.length%64-1<8 then mixL (mixL (zby bs (bs.length/64)) (padB (bs.drop (64*(bs.length/64))))) (putC (List.replicate 64 0) (bs.length*8) 8)
 else mixL (zby bs (bs.length/64)) (putC (padB (bs.drop (64*(bs.length/64)))) (bs.length*8) 8)
def zbX (bs:List Int):List Int:=sbL (finL bs) 8
theorem length_finL (bs:List Int):(finL bs).length=8:=by
 unfold finL;split<;>simp[zbc,zbr]
theorem finL_bd (bs:List Int):Words (finL bs):=by
 unfold finL;split
 ·exact fun i=>zfJ _ _ (fun j=>zfJ _ _ (zeJ _ _) j) i
 ·exact fun i=>zfJ _ _ (zeJ _ _) i
theorem zap (bs:List Int):(zbX bs).length=32:=length_sbL _ _
theorem zbv (bs:List Int):Bytes (zbX bs):=sbL_bd _ (finL_bd bs) 8
theorem padB_bd {rest:List Int} (h:Bytes rest):Bytes (padB rest):=h.append (.of_mem fun x hx=>by
 rcases List.mem_cons.1 hx with rfl|hx
 ·decide
 ·rw[List.eq_of_mem_replicate hx];decide)
theorem zbt {rest:List Int} (h:rest.length<64):(padB rest).length=64:=by simp[padB];omega
def sg (n:Int):Int:=if n<26 then n+65 else if n<52 then n+71 else if n<62 then n-4 else if n<63 then 45 else 95
def wo (c:Int):Int:=if 65≤c∧c≤90 then c-65 else if 97≤c∧c≤122 then c-71 else if 48≤c∧c≤57 then c+4 else if c=45 then 62 else if c=95 then 63 else 64
theorem zco (c:Int):0≤wo c∧wo c≤64:=by unfold wo;split<;>(try split)<;>(try split)<;>(try split)<;>(try split)<;>omega
theorem sg_bd (n:Int) (h:0≤n∧n<64):45≤sg n∧sg n≤122:=by unfold sg;split<;>(try split)<;>(try split)<;>(try split)<;>omega
theorem zig (n:Int) (h:0≤n∧n<64):wo (sg n)=n:=by
 unfold sg
 split
 ·unfold wo;rw[if_pos (by omega)];omega
 ·split
  ·unfold wo;rw[if_neg (by omega),if_pos (by omega)];omega
  ·split
   ·unfold wo;rw[if_neg (by omega),if_neg (by omega),if_pos (by omega)];omega
   ·split
    ·unfold wo;rw[if_neg (by omega),if_neg (by omega),if_neg (by omega),if_pos (by omega)];omega
    ·unfold wo;rw[if_neg (by omega),if_neg (by omega),if_neg (by omega),if_neg (by omega),if_pos (by omega)];omega
theorem zms (c:Int) (h:wo c≠64):sg (wo c)=c:=by
 by_cases h1:65≤c∧c≤90
 ·rw[show wo c=c-65 from by unfold wo;rw[if_pos h1]];unfold sg;rw[if_pos (by omega)];omega
 ·by_cases h2:97≤c∧c≤122
  ·rw[show wo c=c-71 from by unfold wo;rw[if_neg h1,if_pos h2]];unfold sg;rw[if_neg (by omega),if_pos (by omega)];omega
  ·by_cases h3:48≤c∧c≤57
   ·rw[show wo c=c+4 from by unfold wo;rw[if_neg h1,if_neg h2,if_pos h3]];unfold sg;rw[if_neg (by omega),if_neg (by omega),if_pos (by omega)];omega
   ·by_cases h4:c=45
    ·subst h4;rfl
    ·by_cases h5:c=95
     ·subst h5;rfl
     ·exact absurd (by unfold wo;rw[if_neg h1,if_neg h2,if_neg h3,if_neg h4,if_neg h5]) h
def encL:List Int→List Int
 |a::b::c::r=>sg (a/4)::sg (a%4*16+b/16)::sg (b%16*4+c/64)::sg (c%64)::encL r
 |[a,b]=>[sg (a/4),sg (a%4*16+b/16),sg (b%16*4)]
 |[a]=>[sg (a/4),sg (a%4*16)]
 |[]=>[]
def decL:List Int→List Int
 |a::b::c::d::r=>(wo a*4+wo b/16)::(wo b%16*16+wo c/4)::(wo c%4*64+wo d)::decL r
 |[a,b,c]=>[wo a*4+wo b/16,wo b%16*16+wo c/4]
 |[a,b]=>[wo a*4+wo b/16]
 |_=>[]
def badL:List Int→Nat
 |[]=>0
 |c::r=>if wo c=64 then 0 else badL r+1
theorem zkk: ∀l,badL l≤l.length
 |[]=>Nat.le_refl _
 |c::r=>by
  have:=zkk r
  unfold badL
  split
  ·exact Nat.zero_le _
  ·simp;omega
theorem zcV: ∀(l:List Int) (k:Nat),k<badL l→wo (l.getD k 0)≠64
 |[],k,h=>absurd h (by simp[badL])
 |c::r,k,h=>by
  by_cases hc:wo c=64
  ·rw[badL,if_pos hc]at h;omega
  ·rw[badL,if_neg hc]at h
   match k with
   |0=>exact hc
   |k+1=>exact zcV r k (by omega)
theorem badL_bad: ∀(l:List Int),badL l<l.length→wo (l.getD (badL l) 0)=64
 |[],h=>absurd h (by simp)
 |c::r,h=>by
  by_cases hc:wo c=64
  ·rw[badL,if_pos hc];exact hc
  ·rw[badL,if_neg hc]at h⊢
   exact badL_bad r (by simpa using h)
def zfm (l:List Int):Int:=wo (l.getD (l.length-1) 0)%(if l.length%4=2 then 16 else 4)
def zas (l:List Int):Int:=
 if badL l<l.length then(badL l:Int)else if l.length%4=0 then-1 else if l.length%4=1 then(l.length:Int)else if zfm l=0 then-1 else(l.length:Int)-1
theorem zbd: ∀l:List Int,(encL l).length=(8*l.length+5)/6
 |[]=>rfl
 |[_]=>by simp[encL]
 |[_,_]=>by simp[encL]
 |a::b::c::r=>by
  have:=zbd r
  simp only[encL,List.length_cons]
  omega
theorem zgr: ∀(x y:List Int),x.length%3=0→encL (x++y)=encL x++encL y
 |[],y,_=>rfl
 |[_],y,h=>by simp at h
 |[_,_],y,h=>by simp at h
 |a::b::c::r,y,h=>by
  simp only[List.cons_append,encL,zgr r y (by simp at h;omega)]
theorem zkf: ∀(x y:List Int),x.length%4=0→decL (x++y)=decL x++decL y
 |[],y,_=>rfl
 |[_],y,h=>by simp at h
 |[_,_],y,h=>by simp at h
 |[_,_,_],y,h=>by simp at h
 |a::b::c::d::r,y,h=>by
  simp only[List.cons_append,decL,zkf r y (by simp at h;omega)]
theorem zdy: ∀l:List Int,(decL l).length=l.length*6/8
 |[]=>rfl
 |[_]=>by simp[decL]
 |[_,_]=>by simp[decL]
 |[_,_,_]=>by simp[decL]
 |a::b::c::d::r=>by
  have:=zdy r
  simp only[decL,List.length_cons]
  omega
def Byt (l:List Int):Prop:= ∀x∈l,0≤x∧x≤255
theorem zgW: ∀(l:List Int),Byt l→ ∀c∈encL l,∃n:Int,0≤n∧n<64∧c=sg n
 |[],_,c,hc=>by simp[encL]at hc
 |[a],h,c,hc=>by
  have ha:=h a (by simp)
  simp only[encL,List.mem_cons,List.not_mem_nil,or_false]at hc
  rcases hc with rfl|rfl
  ·exact⟨_,by omega,by omega,rfl⟩
  ·exact⟨_,by omega,by omega,rfl⟩
 |[a,b],h,c,hc=>by
  have ha:=h a (by simp)
  have hb:=h b (by simp)
  simp only[encL,List.mem_cons,List.not_mem_nil,or_false]at hc
  rcases hc with rfl|rfl|rfl
  ·exact⟨_,by omega,by omega,rfl⟩
  ·exact⟨_,by omega,by omega,rfl⟩
  ·exact⟨_,by omega,by omega,rfl⟩
 |a::b::d::r,h,c,hc=>by
  have ha:=h a (by simp)
  have hb:=h b (by simp)
  have hd:=h d (by simp)
  simp only[encL,List.mem_cons]at hc
  rcases hc with rfl|rfl|rfl|rfl|hc
  ·exact⟨_,by omega,by omega,rfl⟩
  ·exact⟨_,by omega,by omega,rfl⟩
  ·exact⟨_,by omega,by omega,rfl⟩
  ·exact⟨_,by omega,by omega,rfl⟩
  ·exact zgW r (fun x hx=>h x (by simp[hx])) c hc
theorem zeX: ∀(l:List Int),Byt l→decL (encL l)=l
 |[],_=>rfl
 |[a],h=>by
  have ha:=h a (by simp)
  simp only[encL,decL,zig (a/4) (by omega),zig (a%4*16) (by omega)]
  congr 1;omega
 |[a,b],h=>by
  have ha:=h a (by simp)
  have hb:=h b (by simp)
  simp only[encL,decL,zig (a/4) (by omega),zig (a%4*16+b/16) (by omega),zig (b%16*4) (by omega)]
  congr 1
  ·omega
  ·congr 1;omega
 |a::b::c::r,h=>by
  have ha:=h a (by simp)
  have hb:=h b (by simp)
  have hc:=h c (by simp)
  simp only[encL,decL,zig (a/4) (by omega),zig (a%4*16+b/16) (by omega),zig (b%16*4+c/64) (by omega),zig (c%64) (by omega),zeX r (fun x hx=>h x (by simp[hx]))]
  congr 1
  ·omega
  ·congr 1
   ·omega
   ·congr 1;omega
theorem badL_all: ∀(l:List Int),(∀c∈l,wo c≠64)→badL l=l.length
 |[],_=>rfl
 |c::r,h=>by rw[badL,if_neg (h c (by simp)),badL_all r (fun x hx=>h x (by simp[hx]))];rfl
theorem zfe (x y:List Int) (h:y≠[]):(x++y).getD ((x++y).length-1) 0=y.getD (y.length-1) 0:=by
 have:0<y.length:=by rcases y with _|_<;>simp_all
 simp only[List.getD_eq_getElem?_getD,List.length_append]
 rw[List.getElem?_append_right (by omega)]
 congr 2;omega
theorem zlv: ∀(l:List Int),Byt l→(encL l).length%4≠0→zfm (encL l)=0
 |[],_,h=>absurd rfl h
 |[a],h,_=>by
  have ha:=h a (by simp)
  show wo (sg (a%4*16))%16=0
  rw[zig _ (by omega)];omega
 |[a,b],h,_=>by
  have ha:=h a (by simp)
  have hb:=h b (by simp)
  show wo (sg (b%16*4))%4=0
  rw[zig _ (by omega)];omega
 |a::b::c::r,h,hl=>by
  have ih:=zlv r (fun x hx=>h x (by simp[hx])) (by simp only[encL,List.length_cons]at hl;omega)
  have hne:encL r≠[]:=by
   intro e
   rw[encL,e]at hl
   simp at hl
  have:=zfe [sg (a/4),sg (a%4*16+b/16),sg (b%16*4+c/64),sg (c%64)] (encL r) hne
  unfold zfm at ih⊢
  have e:encL (a::b::c::r)=[sg (a/4),sg (a%4*16+b/16),sg (b%16*4+c/64),sg (c%64)]++encL r:=rfl
  rw[e,this]
  have e2:([sg (a/4),sg (a%4*16+b/16),sg (b%16*4+c/64),sg (c%64)]++encL r).length%4=(encL r).length%4:=by simp;omega
  rw[e2];exact ih
theorem zkc (l:List Int) (h:Byt l):zas (encL l)= -1:=by
 have h1:badL (encL l)=(encL l).length:=badL_all _ fun c hc=>by
  obtain⟨n,h0,h1,rfl⟩:=zgW l h c hc
  rw[zig n ⟨h0,h1⟩];omega
 unfold zas
 rw[if_neg (by omega)]
 by_cases h4:(encL l).length%4=0
 ·rw[if_pos h4]
 ·rw[if_neg h4,if_neg (by rw[zbd];omega),if_pos (zlv l h h4)]
theorem zkd: ∀(l:List Int),badL l=l.length→l.length%4≠1→(l.length%4≠0→zfm l=0)→encL (decL l)=l
 |[],_,_,_=>rfl
 |[_],_,h,_=>absurd rfl h
 |[a,b],hb,_,hl=>by
  have ga:wo a≠64:=zcV [a,b] 0 (by rw[hb];simp)
  have gb:wo b≠64:=zcV [a,b] 1 (by rw[hb];simp)
  have h0:wo b%16=0:=hl (by simp)
  have ba:=zco a
  have bb:=zco b
  simp only[decL,encL]
  rw[show(wo a*4+wo b/16)/4=wo a by omega,show(wo a*4+wo b/16)%4*16=wo b by omega,zms a ga,zms b gb]
 |[a,b,c],hb,_,hl=>by
  have ga:wo a≠64:=zcV [a,b,c] 0 (by rw[hb];simp)
  have gb:wo b≠64:=zcV [a,b,c] 1 (by rw[hb];simp)
  have gc:wo c≠64:=zcV [a,b,c] 2 (by rw[hb];simp)
  have h0:wo c%4=0:=hl (by simp)
  have ba:=zco a
  have bb:=zco b
  have bc:=zco c
  simp only[decL,encL]
  rw[show(wo a*4+wo b/16)/4=wo a by omega,show(wo a*4+wo b/16)%4*16+(wo b%16*16+wo c/4)/16=wo b by omega,show(wo b%16*16+wo c/4)%16*4=wo c by omega,zms a ga,zms b gb,zms c gc]
 |a::b::c::d::r,hb,h1,hl=>by
  have ga:wo a≠64:=zcV (a::b::c::d::r) 0 (by rw[hb];simp)
  have gb:wo b≠64:=zcV (a::b::c::d::r) 1 (by rw[hb];simp)
  have gc:wo c≠64:=zcV (a::b::c::d::r) 2 (by rw[hb];simp)
  have gd:wo d≠64:=zcV (a::b::c::d::r) 3 (by rw[hb];simp)
  have ba:=zco a
  have bb:=zco b
  have bc:=zco c
  have bd:=zco d
  have hbr:badL r=r.length:=by
   simp only[badL,if_neg ga,if_neg gb,if_neg gc,if_neg gd,List.length_cons]at hb
   omega
  have hlr:r.length%4≠0→zfm r=0:=fun h=>by
   have:=hl (by simp only[List.length_cons];omega)
   have hne:r≠[]:=by rintro rfl;simp at h
   have e:=zfe [a,b,c,d] r hne
   have e2:([a,b,c,d]++r).length%4=r.length%4:=by simp;omega
   unfold zfm at this⊢
   rw[show a::b::c::d::r=[a,b,c,d]++r from rfl,e,e2]at this
   exact this
  have ih:=zkd r hbr (by simp only[List.length_cons]at h1;omega) hlr
  simp only[decL,encL,ih]
  rw[show(wo a*4+wo b/16)/4=wo a by omega,show(wo a*4+wo b/16)%4*16+(wo b%16*16+wo c/4)/16=wo b by omega,show(wo b%16*16+wo c/4)%16*4+(wo c%4*64+wo d)/64=wo c by omega,show(wo c%4*64+wo d)%64=wo d by omega,zms a ga,zms b gb,zms c gc,zms d gd]
theorem enc_of_right (l:List Int) (h:zas l= -1):encL (decL l)=l:=by
 unfold zas at h
 have hle:=zkk l
 split at h
 ·omega
 ·rename_i h0
  split at h
  ·rename_i h4
   exact zkd l (by omega) (by omega) (fun h=>absurd h4 h)
  ·rename_i h4
   split at h
   ·omega
   ·rename_i h1
    split at h
    ·rename_i hz
     exact zkd l (by omega) h1 (fun _=>hz)
    ·omega
inductive J where
 |mk (kind n:Int) (s:ByteArray) (l:List J) (k:List ByteArray)
def J.kind:J→Int| .mk k _ _ _ _=>k
def J.n:J→Int| .mk _ n _ _ _=>n
def J.s:J→ByteArray| .mk _ _ s _ _=>s
def J.l:J→List J| .mk _ _ _ l _=>l
def J.k:J→List ByteArray| .mk _ _ _ _ k=>k
def RepK (W:World) (k:List ByteArray) (v:Value):Prop:=
 ∃A c,v= .slice A k.length c∧k.length≤9223372036854775807∧(k≠[]→ ∃b o,A=some ⟨b,o,none⟩∧b<W.heap.size∧ ∀i,i<k.length→ ∃t,k[i]? =some t∧t.size≤9223372036854775807∧W.cell? ⟨b,o+i,none⟩=some (.string t))
def Five (W:World) (b o:Nat) (v:Value):Prop:=
 ∃a0 a1 a2 a3 a4,v= .agg #[a0,a1,a2,a3,a4]∧W.cell? ⟨b,o,none⟩=some a0∧W.cell? ⟨b,o+1,none⟩=some a1∧W.cell? ⟨b,o+2,none⟩=some a2∧W.cell? ⟨b,o+3,none⟩=some a3∧W.cell? ⟨b,o+4,none⟩=some a4
mutual
def RepJ (W:World):J→Value→Prop
 | .mk kind n s l k,v=> ∃vk A c,v= .agg #[.int .i64 kind,.int .i64 n,.string s,.slice A l.length c,vk]∧s.size≤9223372036854775807∧RepK W k vk∧l.length≤9223372036854775807∧
  (l≠[]→ ∃b o,A=some ⟨b,o,none⟩∧b<W.heap.size∧RepC W b o l)
def RepC (W:World) (b o:Nat):List J→Prop
 |[]=>True
 |x::r=>(∃v,RepJ W x v∧Five W b o v)∧RepC W b (o+5) r
end
theorem J.ind {P:J→Prop} (h: ∀kind n s l k,(∀x∈l,P x)→P (.mk kind n s l k)): ∀j,P j
 | .mk kind n s l k=>h kind n s l k (go l)
where go: ∀l:List J,∀x∈l,P x
 |[],x,hx=>by cases hx
 |y::r,x,hx=>by
  rcases List.mem_cons.1 hx with e|hx
  ·rw[e];exact J.ind h y
  ·exact go r x hx
theorem RepK.below {W W':World} {k:List ByteArray} {v:Value} (h:RepK W k v) (hb:Below W.heap.size W W'):RepK W' k v:=by
 obtain⟨A,c,e,hl,hc⟩:=h
 refine⟨A,c,e,hl,fun hne=> ?_⟩
 obtain⟨b,o,e1,hlt,hcs⟩:=hc hne
 refine⟨b,o,e1,Nat.lt_of_lt_of_le hlt hb.size,fun i hi=> ?_⟩
 obtain⟨t,h1,h2,h3⟩:=hcs i hi
 exact⟨t,h1,h2,(hb.cell (p:=⟨b,o+i,none⟩) hlt).trans h3⟩
theorem Five.below {W W':World} {b o:Nat} {v:Value} (h:Five W b o v) (hlt:b<W.heap.size) (hb:Below W.heap.size W W'):Five W' b o v:=by
 obtain⟨a0,a1,a2,a3,a4,e,h0,h1,h2,h3,h4⟩:=h
 exact⟨a0,a1,a2,a3,a4,e,(hb.cell (p:=⟨b,o,none⟩) hlt).trans h0,(hb.cell (p:=⟨b,o+1,none⟩) hlt).trans h1,(hb.cell (p:=⟨b,o+2,none⟩) hlt).trans h2,(hb.cell (p:=⟨b,o+3,none⟩) hlt).trans h3,(hb.cell (p:=⟨b,o+4,none⟩) hlt).trans h4⟩
theorem RepJ.below {W W':World} (hb:Below W.heap.size W W'): ∀(j:J) (v:Value),RepJ W j v→RepJ W' j v:=fun j=>by
 induction j using J.ind with
 |h kind n s l k ih=>
  intro v h
  rw[RepJ]at h⊢
  obtain⟨vk,A,c,e,hs,hk,hl,hc⟩:=h
  refine⟨vk,A,c,e,hs,hk.below hb,hl,fun hne=> ?_⟩
  obtain⟨b,o,e1,hlt,hcs⟩:=hc hne
  refine⟨b,o,e1,Nat.lt_of_lt_of_le hlt hb.size,?_⟩
  have key: ∀(l:List J) (o:Nat),(∀x∈l,∀v,RepJ W x v→RepJ W' x v)→RepC W b o l→RepC W' b o l:=fun l=>by
   induction l with
   |nil=>intro o _ _;rw[RepC];trivial
   |cons x r ihr=>
    intro o ih h
    rw[RepC]at h⊢
    obtain⟨⟨v,h1,h2⟩,h3⟩:=h
    exact⟨⟨v,ih x (by simp) v h1,h2.below hlt hb⟩,ihr (o+5) (fun y hy=>ih y (List.mem_cons_of_mem _ hy)) h3⟩
  exact key l o ih hcs
theorem RepC.at {W:World} {b:Nat}: ∀{l:List J} {o:Nat},RepC W b o l→ ∀i (hi:i<l.length),∃v,RepJ W l[i] v∧Five W b (o+i*5) v
 |x::r,o,h,0,_=>by rw[RepC]at h;rw[Nat.zero_mul];exact h.1
 |x::r,o,h,i+1,hi=>by
  rw[RepC]at h
  have:=h.2.at i (by simpa using hi)
  rw[show o+5+i*5=o+(i+1)*5 by omega]at this
  exact this
mutual
def zhZ:J→J→Bool
 | .mk k1 n1 s1 l1 m1,.mk k2 n2 s2 l2 m2=>decide (k1=k2)&&decide (n1=n2)&&decide (s1=s2)&&decide (m1=m2)&&zdw l1 l2
def zdw:List J→List J→Bool
 |[],[]=>true
 |x::r,y::t=>zhZ x y&&zdw r t
 |_,_=>false
end
def isD (c:Int):Bool:=decide (48≤c∧c≤57)
theorem isD_iff {c:Int}:isD c=true↔48≤c∧c≤57:=by unfold isD;rw[decide_eq_true_eq]
theorem isD_false {c:Int}:isD c=false↔ ¬(48≤c∧c≤57):=by unfold isD;rw[decide_eq_false_iff_not]
def digL (n:Nat):List Int:=if h:n<10 then[48+(n:Int)]else digL (n/10)++[48+((n%10:Nat):Int)]
termination_by n
decreasing_by omega
theorem zed {n:Nat} (h:n<10):digL n=[48+(n:Int)]:=by rw[digL,dif_pos h]
theorem zev {n:Nat} (h: ¬n<10):digL n=digL (n/10)++[48+((n%10:Nat):Int)]:=by rw[digL,dif_neg h]
def prL (n:Int):List Int:=if n<0 then 45::digL n.natAbs else digL n.natAbs
theorem zcr: ∀(n:Nat),∀x∈digL n,48≤x∧x≤57:=fun n=>by
 induction n using Nat.strongRecOn with
 |_ n ih=>
  intro x hx
  by_cases h:n<10
  ·rw[zed h]at hx
   simp at hx;omega
  ·rw[zev h]at hx
   rcases List.mem_append.1 hx with hx|hx
   ·exact ih (n/10) (by omega) x hx
   ·simp at hx;omega
theorem ziQ (n:Nat):digL n≠[]:=by
 by_cases h:n<10
 ·rw[zed h];simp
 ·rw[zev h];simp
theorem zma: ∀(n:Nat),0<n→49≤(digL n).getD 0 0:=fun n=>by
 induction n using Nat.strongRecOn with
 |_ n ih=>
  intro hn
  by_cases h:n<10
  ·rw[zed h];simp;omega
  ·rw[zev h]
   have h1:=ih (n/10) (by omega) (by omega)
   have hne:=ziQ (n/10)
   obtain⟨c,r,hc⟩:=List.exists_cons_of_ne_nil hne
   rw[hc]at h1⊢
   simpa using h1
theorem digL_bytes (n:Nat):Bytes (digL n):= .of_mem fun x hx=>by have:=zcr n x hx;omega
theorem prL_bytes (n:Int):Bytes (prL n):=by
 unfold prL
 split
 ·exact .of_mem fun x hx=>by
   rcases List.mem_cons.1 hx with rfl|hx
   ·decide
   ·have:=zcr _ x hx;omega
 ·exact digL_bytes _
theorem znr: ∀(k n:Nat),n<10^(k+1)→(digL n).length≤k+1
 |0,n,h=>by rw[zed (by simpa using h)];simp
 |k+1,n,h=>by
  by_cases h':n<10
  ·rw[zed h'];simp
  ·rw[zev h',List.length_append]
   have:=znr k (n/10) (by rw[Nat.pow_succ]at h;omega)
   simp;omega
def valL:List Int→Nat
 |[]=>0
 |l=>l.foldl (fun a c=>a*10+(c-48).toNat) 0
theorem zhn (l:List Int):valL l=l.foldl (fun a c=>a*10+(c-48).toNat) 0:=by cases l<;>rfl
theorem valL_snoc (l:List Int) (c:Int):valL (l++[c])=valL l*10+(c-48).toNat:=by
 rw[zhn,zhn,List.foldl_append];rfl
theorem valL_digL: ∀(n:Nat),valL (digL n)=n:=fun n=>by
 induction n using Nat.strongRecOn with
 |_ n ih=>
  by_cases h:n<10
  ·rw[zed h]
   show 0*10+(48+(n:Int)-48).toNat=n
   omega
  ·rw[zev h,valL_snoc,ih (n/10) (by omega)]
   omega
def runL:List Int→Nat
 |[]=>0
 |c::r=>if isD c then runL r+1 else 0
theorem zmv: ∀l,runL l≤l.length
 |[]=>Nat.le_refl _
 |c::r=>by
  have:=zmv r
  rw[runL];split<;>simp<;>omega
theorem zle: ∀(l:List Int) (k:Nat),k<runL l→isD (l.getD k 0)=true
 |[],k,h=>absurd h (Nat.not_lt_zero _)
 |c::r,k,h=>by
  rw[runL]at h
  split at h
  ·rename_i hc
   cases k with
   |zero=>exact hc
   |succ k=>exact zle r k (by omega)
  ·exact absurd h (Nat.not_lt_zero _)
def zbY:List Int→Nat
 |[]=>0
 |c::r=>if c=45 then(if 49≤r.getD 0 0∧r.getD 0 0≤57 then runL r+1 else 0)else if c=48 then 1 else runL (c::r)
def zeV (l:List Int):Bool:=decide (l≠[]∧zbY l=l.length)
theorem zfY: ∀l,zbY l≤l.length
 |[]=>Nat.le_refl _
 |c::r=>by
  have h1:=zmv r
  have h2:=zmv (c::r)
  rw[zbY]
  split
  ·split
   ·simp;omega
   ·simp
  ·split
   ·simp
   ·exact h2
def AllD (l:List Int):Prop:= ∀x∈l,48≤x∧x≤57
theorem AllD.at {l:List Int} (h:AllD l) (k:Nat) (hk:k<l.length):48≤l.getD k 0∧l.getD k 0≤57:=by
 rw[List.getD_eq_getElem?_getD,List.getElem?_eq_getElem hk]
 exact h _ (List.getElem_mem hk)
theorem zit: ∀{l:List Int},AllD l→runL l=l.length
 |[],_=>rfl
 |c::r,h=>by
  rw[runL,if_pos (isD_iff.2 (h c (by simp))),zit (fun x hx=>h x (List.mem_cons_of_mem _ hx))];rfl
theorem zny: ∀{l:List Int},runL l=l.length→AllD l
 |[],_=>fun x hx=>by cases hx
 |c::r,h=>by
  rw[runL]at h
  by_cases hc:isD c=true
  ·rw[if_pos hc]at h
   have:=zny (l:=r) (by simpa using h)
   intro x hx
   rcases List.mem_cons.1 hx with rfl|hx
   ·exact isD_iff.1 hc
   ·exact this x hx
  ·rw[if_neg hc]at h
   simp at h
theorem runL_app: ∀{l:List Int} (e:Int) (r:List Int),AllD l→isD e=false→runL (l++e::r)=l.length
 |[],e,r,_,he=>by rw[List.nil_append,runL,if_neg (by rw[he];decide)];rfl
 |c::l,e,r,h,he=>by
  rw[List.cons_append,runL,if_pos (isD_iff.2 (h c (by simp))),runL_app e r (fun x hx=>h x (List.mem_cons_of_mem _ hx)) he];rfl
theorem zeQ {l:List Int} (h:l.getD 0 0≠45):zeV l=true↔AllD l∧(l.length=1∨1<l.length∧l.getD 0 0≠48):=by
 unfold zeV
 rw[decide_eq_true_eq]
 cases l with
 |nil=>simp
 |cons c r=>
  rw[List.getD_cons_zero]at h⊢
  rw[zbY,if_neg h]
  by_cases h48:c=48
  ·rw[if_pos h48]
   constructor
   ·rintro⟨_,h1⟩
    have:r=[]:=List.eq_nil_of_length_eq_zero (by simpa using h1.symm)
    subst this
    exact⟨fun x hx=>by simp at hx;omega,.inl rfl⟩
   ·rintro⟨_,h1|⟨_,h1⟩⟩
    ·exact⟨by simp,h1.symm⟩
    ·exact absurd h48 h1
  ·rw[if_neg h48]
   constructor
   ·rintro⟨_,h1⟩
    refine⟨zny h1,?_⟩
    cases r with
    |nil=>exact .inl rfl
    |cons a t=>exact .inr ⟨by simp,h48⟩
   ·rintro⟨h1,_⟩
    exact⟨by simp,zit h1⟩
theorem zmJ (r:List Int):zeV (45::r)=true↔r≠[]∧r.getD 0 0≠48∧r.getD 0 0≠45∧zeV r=true:=by
 have hl:zbY (45::r)=if 49≤r.getD 0 0∧r.getD 0 0≤57 then runL r+1 else 0:=by rw[zbY,if_pos rfl]
 have h0:zeV (45::r)=true↔zbY (45::r)=r.length+1:=by
  unfold zeV;rw[decide_eq_true_eq];simp
 rw[h0,hl]
 constructor
 ·intro h
  split at h
  ·rename_i hc
   have hne:r≠[]:=fun e=>by rw[e]at hc;simp at hc
   have hall:=zny (l:=r) (by omega)
   refine⟨hne,by omega,by omega,(zeQ (by omega)).2 ⟨hall,?_⟩⟩
   have:=List.length_pos_iff.2 hne
   rcases Nat.lt_or_ge 1 r.length with h1|h1
   ·exact .inr ⟨h1,by omega⟩
   ·exact .inl (by omega)
  ·omega
 ·rintro⟨hne,h48,h45,hf⟩
  obtain⟨hall,_⟩:=(zeQ h45).1 hf
  have:=hall.at 0 (List.length_pos_iff.2 hne)
  rw[if_pos (by omega),zit hall]
theorem znk: ∀(l:List Int) (a:Nat),l.foldl (fun a c=>a*10+(c-48).toNat) a=a*10^l.length+valL l
 |[],a=>by rw[zhn];simp
 |c::r,a=>by
  rw[List.foldl_cons,znk r,zhn (c::r),List.foldl_cons,znk r,List.length_cons,Nat.pow_succ]
  rw[Nat.add_mul,Nat.zero_mul,Nat.zero_add,Nat.mul_assoc,Nat.mul_comm 10]
  omega
theorem valL_app (a b:List Int):valL (a++b)=valL a*10^b.length+valL b:=by
 rw[zhn,List.foldl_append,znk,←zhn]
theorem valL_take_le (l:List Int) (k:Nat):valL (l.take k)≤valL l:=by
 have h:=valL_app (l.take k) (l.drop k)
 rw[List.take_append_drop]at h
 have:valL (l.take k)*1≤valL (l.take k)*10^(l.drop k).length:=Nat.mul_le_mul_left _ (Nat.pow_pos (by decide))
 omega
def numL (l:List Int):Int:=if l.getD 0 0=45 then-(valL (l.drop 1):Int)else(valL l:Int)
def fitL (l:List Int) (least most:Int):Bool:=decide (-9223372036854775808≤numL l∧numL l≤9223372036854775807∧least≤numL l∧numL l≤most)
theorem zkb {l:List Int} (h:zeV l=true):(l.getD 0 0=45∧AllD (l.drop 1)∧49≤(l.drop 1).getD 0 0∧l=45::l.drop 1)∨(l.getD 0 0≠45∧AllD l∧l≠[]∧(49≤l.getD 0 0∨l.length=1)):=by
 by_cases h45:l.getD 0 0=45
 ·cases l with
  |nil=>simp at h45
  |cons c r=>
   rw[List.getD_cons_zero]at h45
   subst h45
   obtain⟨hne,h1,h2,hf⟩:=(zmJ r).1 h
   obtain⟨hall,_⟩:=(zeQ h2).1 hf
   have:=hall.at 0 (List.length_pos_iff.2 hne)
   exact .inl ⟨rfl,hall,by show 49≤r.getD 0 0;omega,rfl⟩
 ·obtain⟨hall,h1⟩:=(zeQ h45).1 h
  have hne:l≠[]:=fun e=>by subst e;simp at h1
  refine .inr ⟨h45,hall,hne,?_⟩
  rcases h1 with h1|⟨_,h1⟩
  ·exact .inr h1
  ·have:=hall.at 0 (List.length_pos_iff.2 hne)
   exact .inl (by omega)
theorem form_digL (n:Nat):zeV (digL n)=true:=by
 have h1:=zcr n
 have hne:=ziQ n
 have h0:=AllD.at (l:=digL n) h1 0 (List.length_pos_iff.2 hne)
 refine(zeQ (by omega)).2 ⟨h1,?_⟩
 rcases Nat.eq_zero_or_pos n with h|h
 ·subst h;left;rw[zed (by decide)];rfl
 ·have:=zma n h
  rcases Nat.lt_or_ge 1 (digL n).length with h2|h2
  ·exact .inr ⟨h2,by omega⟩
  ·left
   have:=List.length_pos_iff.2 hne
   omega
theorem form_prL (n:Int):zeV (prL n)=true:=by
 unfold prL
 split
 ·rename_i h
  have hpos:0<n.natAbs:=by omega
  have:=zma n.natAbs hpos
  exact(zmJ _).2 ⟨ziQ _,by omega,by omega,form_digL _⟩
 ·exact form_digL _
theorem numL_prL (n:Int):numL (prL n)=n:=by
 unfold prL numL
 split
 ·rename_i h
  rw[List.getD_cons_zero,if_pos rfl,List.drop_succ_cons,List.drop_zero,valL_digL];omega
 ·rename_i h
  have h0:=AllD.at (l:=digL n.natAbs) (zcr _) 0 (List.length_pos_iff.2 (ziQ _))
  rw[if_neg (by omega),valL_digL];omega
end Go.Proofs.YtceddodfddlncaaGreatDoor
