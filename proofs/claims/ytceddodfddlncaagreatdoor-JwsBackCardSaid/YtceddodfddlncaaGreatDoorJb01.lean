
import Derived.WalkKit
import Derived.Below
import Derived.Laws.Rows
import Derived.Laws.Tables
import Derived.Laws.OwnMore
import Derived.Laws.CopyOwn
import Derived.Deep.Draws
import Derived.Deep.MidRow
import Derived.Deep.WholeRow
import Derived.Maps.AppendAt
import Derived.Lib.Hide
import Derived.Deep.RegionLaw
import Derived.Lib.ConvBytes
import Derived.Test.YtceddodfddlncaaGreatDoorProg
import Derived.Laws.BytesString
import Derived.Laws.BytesArg
import Derived.Lib.SlicesCompact
import Derived.Maps.OwnSet
import Derived.Lib.OwnBridge
import Derived.Sort.OwnSorted
import Derived.Deep.QuietTactic
import Derived.BigQuiet
import Derived.IntWalk
set_option maxRecDepth 100000
set_option maxHeartbeats 16000000
set_option linter.all false
namespace Go.Proofs.YtceddodfddlncaaGreatDoor
open Go Go.RowKit
def Blk (w:World) (g:Nat) (t:TypeId) (cs:List Value):Prop:=w.heap[g]? =some (.cells cs.toArray t (0,0))
section
variable {w w':World} {g:Nat} {t:TypeId} {cs:List Value}
theorem Blk.lt (h:Blk w g t cs):g<w.heap.size:=by
 rcases Nat.lt_or_ge g w.heap.size with hlt|hge
 ·exact hlt
 ·unfold Blk at h;rw[Array.getElem?_eq_none hge]at h;cases h
theorem Blk.cell (h:Blk w g t cs) (i:Nat):w.cell? ⟨g,i,none⟩=cs[i]? :=by
 have:=cell_of_row w g i cs.toArray t (0,0) h
 simpa using this
theorem Blk.frozen (h:Blk w g t cs) (i:Nat):w.frozen? ⟨g,i,none⟩=false:=by
 unfold Blk at h
 simp[World.frozen?,h]
theorem Blk.drew (h:Blk w g t cs):Blk w.drew g t cs:=h
theorem Blk.drewN (h:Blk w g t cs) (n:Nat):Blk (w.drewN n) g t cs:=h
theorem Blk.below {B:Nat} (h:Blk w g t cs) (hb:Below B w w') (hg:g<B):Blk w' g t cs:=(hb.block g hg).trans h
theorem Blk.grown {row:Option Nat} (h:Blk w g t cs) (hb:w.grownBy w' row) (hg:some g≠row):Blk w' g t cs:=(hb.block g h.lt hg).trans h
theorem Blk.grownN (h:Blk w g t cs) (hb:w.grownBy w' none):Blk w' g t cs:=h.grown hb (by simp)
theorem Blk.range (h:Blk w g t cs) (o:Nat) (ds:List Value) (hd: ∀j v,ds[j]? =some v→cs[o+j]? =some v):w.rangeAt g o ds:=fun j v hv=>by
 rw[h.cell];exact hd j v hv
theorem Blk.there (h:Blk w g t cs) (o n:Nat) (hn:o+n≤cs.length):w.there g o n:=fun j hj=>by
 refine⟨?_,h.frozen _⟩
 rw[h.cell,List.getElem?_eq_getElem (by omega)];rfl
end
theorem zaw {B:Nat} {a w:World} (h:Below B a w) (n:Nat):Below B a (w.drewN n):=⟨h.os,h.tape,h.output,h.size,h.block⟩
theorem zaY (w:World) (row:Option Nat):w.grownBy w row:=⟨rfl,rfl,rfl,Nat.le_refl _,fun _ _ _=>rfl⟩
theorem zaX {a w:World} (h:Below a.heap.size a w) (row:Option Nat):a.grownBy w row:=⟨h.os,h.tape,h.output,h.size,fun i hi _=>h.block i hi⟩
theorem zhj {a w:World} {row:Option Nat} (h:a.grownBy w row) (n:Nat):a.grownBy (w.drewN n) row:=⟨h.os,h.tape,h.output,h.size,h.block⟩
theorem Blk.setCell {w:World} {g:Nat} {t:TypeId} {cs:List Value} (h:Blk w g t cs) (i:Nat) (v:Value):Blk (w.setCell ⟨g,i,none⟩ v) g t (cs.set i v):=by
 have:=heap_setCell_same w g i cs.toArray t v h
 unfold Blk
 rw[this];simp
theorem zaV (w:World) (g i:Nat) (v:Value):w.grownBy (w.setCell ⟨g,i,none⟩ v) (some g):=
 ⟨rfl,rfl,rfl,by simp,fun k _ hk=>heap_setCell_other w ⟨g,i,none⟩ k v (fun e=>hk (by simp[e]))⟩
theorem zaJ {a w:World} {row:Option Nat} (h:a.grownBy w row):a.grownBy w.drew row:=⟨h.os,h.tape,h.output,h.size,h.block⟩
def ints (k:IntKind) (l:List Int):List Value:=l.map (Value.int k)
@[simp] theorem length_ints (k:IntKind) (l:List Int):(ints k l).length=l.length:=by simp[ints]
theorem zaq (k:IntKind) (l:List Int) (i:Nat) (h:i<l.length):(ints k l)[i]? =some (.int k (l.getD i 0)):=by
 simp[ints,List.getElem?_eq_getElem h]
theorem zal (k:IntKind) (l:List Int): ∀v∈ints k l,v.oneCell'=true:=by
 intro v hv;obtain⟨n,_,rfl⟩:=List.mem_map.1 hv;rfl
theorem zcc (k:IntKind) (l:List Int) (i:Nat) (x:Int):(ints k l).set i (.int k x)=ints k (l.set i x):=by simp[ints,List.map_set]
theorem zbK (k:IntKind) (l m:List Int):ints k (l++m)=ints k l++ints k m:=by simp[ints]
theorem all_one {cs:List Value} (h: ∀v∈cs,v.oneCell'=true):cs.toArray.all (·.oneCell')=true:=all_oneCell_toArray h
section
variable {P:Program} {w:World} {ops:Array Oper} {rest:List Oper} {o:Oper} {a:Act} {Q:Exit→Act→World→Prop}
theorem zaK (hgd:o.guard=none) (d:Option Tmp) (hdst:o.dst=d) (ty:TypeId) (ho:o.op= .alloc ty) (z:List Value) (hz:(P.info? ty).map (·.zero)=some (some (.agg z.toArray)))
  (h: ∀g w',w.heap.size≤g→Blk w' g ty z→w.grownBy w' none→wpList P ops Q rest (a.put d (.pointer (some ⟨g,0,none⟩))) w'):wpList P ops Q (o::rest) a w:=by
 subst hdst
 refine wpList_plain hgd fun K hK=> ?_
 have hzero:(zeroValue ty).run P w= .ok (.agg z.toArray) w:=by
  cases hq:P.info? ty with
  |none=>simp[hq]at hz
  |some i=>
   simp[hq]at hz
   simp[zeroValue,typeInfo,hq,hz]
 unfold Oper.wp execOp
 simp only[ho,Instr.alloc,Sem.run_bind,hzero,Result.andThen_ok]
 exact hK _ _ (h w.heap.size (w.alloc (.cells z.toArray ty)) (Nat.le_refl _) (heap_alloc_new w _) (World.grownBy_alloc w _ none))
theorem zda (hgd:o.guard=none) (d:Option Tmp) (hdst:o.dst=d) (ty:TypeId) (x:Operand) (ho:o.op= .box ty x) (z:List Value) (hx:a.eval x= .agg z.toArray)
  (h: ∀g w',w.heap.size≤g→Blk w' g ty z→w.grownBy w' none→wpList P ops Q rest (a.put d (.pointer (some ⟨g,0,none⟩))) w'):wpList P ops Q (o::rest) a w:=by
 subst hdst
 refine wpList_plain hgd fun K hK=> ?_
 unfold Oper.wp execOp
 simp only[ho,hx,Instr.box,Sem.run_bind]
 exact hK _ _ (h w.heap.size (w.alloc (.cells z.toArray ty)) (Nat.le_refl _) (heap_alloc_new w _) (World.grownBy_alloc w _ none))
theorem zae (hgd:o.guard=none) (d:Option Tmp) (hdst:o.dst=d) (ty:TypeId) (x:Operand) (ho:o.op= .load ty x)
  (g off:Nat) (hx:a.eval x= .pointer (some ⟨g,off,none⟩)) (t:TypeId) (cs:List Value) (hb:Blk w g t cs) (ds:List Value)
  (hds: ∀j v,ds[j]? =some v→cs[off+j]? =some v) (de:TypeDesc)
  (hu:P.underlying ty=some de) (hd:de.isRow=true) (hi:(P.info? ty).map (·.size)=some ds.length)
  (h:wpList P ops Q rest (a.put d (.agg ds.toArray)) w):wpList P ops Q (o::rest) a w:=by
 subst hdst
 exact wpList_load_mid hgd ty x ho g off hx ds de (hb.range off ds hds) hu hd hi h
theorem zbV (hgd:o.guard=none) (d:Option Tmp) (hdst:o.dst=d) (ty:TypeId) (x:Operand) (ho:o.op= .load ty x)
  (g off:Nat) (hx:a.eval x= .pointer (some ⟨g,off,none⟩)) (t:TypeId) (cs:List Value) (hb:Blk w g t cs) (v:Value) (hv:cs[off]? =some v) (k:IntKind)
  (hu:P.underlying ty=some (.int k))
  (h:wpList P ops Q rest (a.put d v) w):wpList P ops Q (o::rest) a w:=by
 subst hdst
 refine wpList_plain hgd fun K hK=> ?_
 have hc:w.cell? ⟨g,off,none⟩=some v:=(hb.cell off).trans hv
 have hagg:(isAgg ty).run P w= .ok false w:=by
  unfold isAgg
  rw[Sem.run_bind,run_underlying hu w]
  rfl
 unfold Oper.wp execOp
 simp only[ho,hx,Instr.loadAt,Instr.sureAddr,Sem.run_bind,Sem.run_pure,Result.andThen_ok,loadVar,hagg]
 simp only[Bool.false_eq_true,if_false]
 have hl:(load ⟨g,off,none⟩).run P w= .ok v w:=by simp[go_sem,hc]
 rw[hl]
 exact hK _ _ h
theorem zcw (g:Nat) (t:TypeId): ∀(vs:List Value) (off:Nat) (cs:List Value) (w:World),Blk w g t cs→off+vs.length≤cs.length→
  Blk (w.setCells g off vs) g t (splice cs off vs)∧w.grownBy (w.setCells g off vs) (some g)
 |[],off,cs,w,hb,_=>by
  refine⟨?_,zaY _ _⟩
  simpa[World.setCells,splice]using hb
 |v::r,off,cs,w,hb,hl=>by
  simp only[List.length_cons]at hl
  have hb1:Blk (w.setCell ⟨g,off,none⟩ v) g t (cs.set off v):=by
   have:=heap_setCell_same w g off cs.toArray t v hb
   unfold Blk
   rw[this];simp
  have hg1:w.grownBy (w.setCell ⟨g,off,none⟩ v) (some g):=⟨rfl,rfl,rfl,by simp,fun k _ hk=>heap_setCell_other w ⟨g,off,none⟩ k v (fun e=>hk (by simp[e]))⟩
  obtain⟨h1,h2⟩:=zcw g t r (off+1) (cs.set off v) _ hb1 (by simp;omega)
  refine⟨?_,hg1.trans h2⟩
  rw[World.setCells]
  have e:splice (cs.set off v) (off+1) r=splice cs off (v::r):=by
   apply List.ext_getElem?
   intro i
   simp only[splice,List.getElem?_append,List.length_take,List.length_set,List.getElem?_take,List.getElem?_drop,List.getElem?_set,List.length_cons]
   by_cases h1:i<off
   ·simp[h1,show i<min (off+1) cs.length by omega,show i<min off cs.length by omega,show ¬off=i by omega,show i<off+1 by omega]
   ·by_cases h2:i=off
    ·subst h2
     simp[show i<min (i+1) cs.length by omega,show ¬i<min i cs.length by omega,show i-min i cs.length=0 by omega,show i<cs.length by omega]
    ·simp only[show ¬i<min (off+1) cs.length by omega,show ¬i<min off cs.length by omega,if_false]
     rw[show min (off+1) cs.length=off+1 by omega,show min off cs.length=off by omega]
     obtain⟨j,rfl⟩: ∃j,i=off+1+j:=⟨i-(off+1),by omega⟩
     rw[show off+1+j-(off+1)=j by omega,show off+1+j-off=j+1 by omega]
     simp only[Nat.add_lt_add_iff_right,List.getElem?_cons_succ]
     split
     ·rfl
     ·rw[if_neg (by omega),show off+(r.length+1)+(j+1-(r.length+1))=off+1+r.length+(j-r.length)by omega]
  rw[e]at h1
  exact h1
theorem zac (hgd:o.guard=none) (d:Option Tmp) (hdst:o.dst=d) (ty:TypeId) (x y:Operand) (ho:o.op= .store ty x y)
  (g off:Nat) (ds:List Value) (hx:a.eval x= .pointer (some ⟨g,off,none⟩)) (hy:a.eval y= .agg ds.toArray)
  (t:TypeId) (cs:List Value) (hb:Blk w g t cs) (hl:off+ds.length≤cs.length)
  (hi:(P.info? ty).map (·.size)=some ds.length) (h1: ∀v∈ds,v.oneCell'=true)
  (h: ∀w',Blk w' g t (splice cs off ds)→w.grownBy w' (some g)→wpList P ops Q rest (a.put d undef) w'):wpList P ops Q (o::rest) a w:=by
 subst hdst
 exact wpList_store_mid hgd ty x y ho g off ds.toArray hx hy (hb.there off _ (by simpa using hl)) (by simpa using hi) (all_one h1)
  (by have:=zcw g t ds off cs w hb hl;exact h _ this.1 this.2)
theorem zaf (hgd:o.guard=none) (d:Option Tmp) (hdst:o.dst=d) (ty:TypeId) (x y:Operand) (ho:o.op= .store ty x y)
  (g off:Nat) (v:Value) (hx:a.eval x= .pointer (some ⟨g,off,none⟩)) (hy:a.eval y=v) (hv:v.oneCell'=true)
  (t:TypeId) (cs:List Value) (hb:Blk w g t cs) (hl:off<cs.length)
  (hi:(P.info? ty).map (·.size)=some 1)
  (h: ∀w',Blk w' g t (cs.set off v)→w.grownBy w' (some g)→wpList P ops Q rest (a.put d undef) w'):wpList P ops Q (o::rest) a w:=by
 subst hdst
 refine wpList_plain hgd fun K hK=> ?_
 have hc:w.cell? ⟨g,off,none⟩=some cs[off]:=(hb.cell off).trans (List.getElem?_eq_getElem hl)
 have hf:=hb.frozen off
 have hcv:v.cells= #[v]:=by cases v<;>first|rfl|cases hv
 have hst:(storeVar ty ⟨g,off,none⟩ v).run P w= .ok () (w.setCell ⟨g,off,none⟩ v):=by
  cases hq:P.info? ty with
  |none=>simp[hq]at hi
  |some i=>
   have hs:i.size=1:=by simpa[hq]using hi
   have hadd:(⟨g,off,none⟩:Addr).add 0=⟨g,off,none⟩:=by unfold Addr.add;split<;>simp_all
   have hst':(store ⟨g,off,none⟩ v .plain).run P w= .ok () (w.setCell ⟨g,off,none⟩ v):=by
    rw[run_store P w _ v _ hv]
    simp[hc,hf]
   simp[storeVar,sizeOf,typeInfo,hq,hcv,hs,storeCells,hadd,hst']
 unfold Oper.wp execOp
 simp only[ho,hx,hy,Instr.storeAt,Instr.sureAddr,Sem.run_bind,Sem.run_pure,Result.andThen_ok,hst]
 refine hK _ _ (h _ ?_ ⟨rfl,rfl,rfl,by simp,fun k _ hk=>heap_setCell_other w ⟨g,off,none⟩ k v (fun e=>hk (by simp[e]))⟩)
 have:=heap_setCell_same w g off cs.toArray t v hb
 unfold Blk
 rw[this];simp
theorem zcl (hgd:o.guard=none) (d:Option Tmp) (hdst:o.dst=d) (ty:TypeId) (x i:Operand) (ho:o.op= .index ty x i)
  (cs:List Value) (hx:a.eval x= .agg cs.toArray) (k:IntKind) (j:Nat) (hi:a.eval i= .int k (j:Int)) (n e:Nat)
  (hu:P.underlying ty=some (.array n e)) (hj:j<n) (ek:IntKind) (he:P.underlying e=some (.int ek)) (hsz:(P.info? e).map (·.size)=some 1) (v:Value) (hv:cs[j]? =some v)
  (h:wpList P ops Q rest (a.put d v) w):wpList P ops Q (o::rest) a w:=by
 subst hdst
 refine wpList_plain hgd fun K hK=> ?_
 have hagg:(isAgg e).run P w= .ok false w:=by
  unfold isAgg
  rw[Sem.run_bind,run_underlying he w]
  rfl
 have hrun:(Instr.index ty (.agg cs.toArray) (.int k (j:Int))).run P w= .ok v w:=by
  cases hq:P.info? e with
  |none=>simp[hq]at hsz
  |some inf=>
   have hs:inf.size=1:=by simpa[hq]using hsz
   have hc:(0:Int)≤(j:Int)∧(j:Int)<(n:Int):=by omega
   simp[Instr.index,asIntOf,run_underlying hu,sizeOf,typeInfo,hq,hs,hj,part,hagg,hv]
 unfold Oper.wp execOp
 simp only[ho,hx,hi,Sem.run_bind,Result.andThen_ok,hrun]
 exact hK _ _ h
theorem zbb {fn:Func} {p:Tmp} {ty:TypeId} (h:fn.results= #[.cell p ty]) (tmps:Array Value) (w:World) (g:Nat) (t:TypeId) (cs:List Value) (de:TypeDesc)
  (hp:tmps.getD p undef= .pointer (some ⟨g,0,none⟩)) (hb:Blk w g t cs)
  (hu:P.underlying ty=some de) (hd:de.isRow=true) (hi:(P.info? ty).map (·.size)=some cs.length):
  (results fn tmps).run P w= .ok (.agg cs.toArray) w:=
 results_cell_row h tmps w g t cs.toArray (0,0) de hp hb hu (by cases de<;>first|rfl|cases hd) (by simpa using hi)
end
theorem zah {α:Type} (cs ds:List α) (h:cs.length=ds.length):splice cs 0 ds=ds:=by
 simp[splice,←h]
section
variable {P:Program} {w:World} {ops:Array Oper} {rest:List Oper} {o:Oper} {a:Act} {Q:Exit→Act→World→Prop}
theorem zjZ {K:Act→World→Prop} (d s:Operand) (dT sT:TypeId)
  (ho:o.op= .call {callee:= .builtin .copy,args:= #[d,s],argTypes:= #[dT,sT]}) (elem:TypeId) (hu:P.underlying dT=some (.slice elem)) (hsz:(P.info? elem).map (·.size)=some 1)
  (dp sp:Option Addr) (dLen dCap sLen sCap:Nat) (hd:a.eval d= .slice dp dLen dCap) (hs:a.eval s= .slice sp sLen sCap)
  (g off:Nat) (t:TypeId) (cs:List Value) (hb:Blk w g t cs) (ds:List Value) (q:Nat) (hq:ds.length=q) (hn:q=Nat.min sLen dLen)
  (hpos:0<ds.length→dp=some ⟨g,off,none⟩∧ ∃ad,sp=some ad∧ ∀j v,ds[j]? =some v→w.cell? (ad.add j)=some v)
  (hfit:off+ds.length≤cs.length) (h1: ∀v∈ds,v.oneCell'=true)
  (h: ∀w',Blk w' g t (splice cs off ds)→w.grownBy w' (some g)→K (a.put o.dst (goInt q)) w'):o.wp P a w K Q:=by
 subst hq
 by_cases h0:ds.length=0
 ·obtain rfl:ds=[]:=List.eq_nil_of_length_eq_zero h0
  have hrun:=run_copy_none (P:=P) w dT sT o.type elem dp sp dLen dCap sLen sCap hu hsz (by simpa using hn.symm)
  unfold Oper.wp
  simp[execOp,ho,resolve,invoke,builtin,hd,hs,hrun,Result.andThen]
  exact h w (by simpa[splice]using hb) (zaY _ _)
 ·obtain⟨rfl,ad,rfl,hsrc⟩:=hpos (by omega)
  have hrun:=run_copy_row (P:=P) w dT sT o.type elem g off dLen dCap ad sLen sCap cs.toArray t ds hu hsz hb hn hsrc (by simpa using hfit) h1
  unfold Oper.wp
  simp[execOp,ho,resolve,invoke,builtin,hd,hs,hrun,Result.andThen]
  refine h _ ?_ ⟨rfl,rfl,rfl,by simp[World.setRow],fun k _ hk=>setRow_other w g k _ (fun e=>hk (by simp[e]))⟩
  have:=setRow_heap w g cs.toArray (cs.take off++(ds++cs.drop (off+ds.length))).toArray t (0,0) hb
  simpa[splice,Blk]using this
theorem zjX (hgd:o.guard=none) (dst:Option Tmp) (hdst:o.dst=dst) (d s:Operand) (dT sT:TypeId)
  (ho:o.op= .call {callee:= .builtin .copy,args:= #[d,s],argTypes:= #[dT,sT]}) (elem:TypeId) (hu:P.underlying dT=some (.slice elem)) (hsz:(P.info? elem).map (·.size)=some 1)
  (dp sp:Option Addr) (dLen dCap sLen sCap:Nat) (hd:a.eval d= .slice dp dLen dCap) (hs:a.eval s= .slice sp sLen sCap)
  (g off:Nat) (t:TypeId) (cs:List Value) (hb:Blk w g t cs) (ds:List Value) (q:Nat) (hq:ds.length=q) (hn:q=Nat.min sLen dLen)
  (hpos:0<ds.length→dp=some ⟨g,off,none⟩∧ ∃ad,sp=some ad∧ ∀j v,ds[j]? =some v→w.cell? (ad.add j)=some v)
  (hfit:off+ds.length≤cs.length) (h1: ∀v∈ds,v.oneCell'=true)
  (h: ∀w',Blk w' g t (splice cs off ds)→w.grownBy w' (some g)→wpList P ops Q rest (a.put dst (goInt q)) w'):wpList P ops Q (o::rest) a w:=by
 subst hdst
 exact wpList_plain hgd fun K hK=>zjZ d s dT sT ho elem hu hsz dp sp dLen dCap sLen sCap hd hs g off t cs hb ds q hq hn hpos hfit h1 fun w' h2 h3=>hK _ _ (h w' h2 h3)
theorem zdk {K:Act→World→Prop} {E:Prop} (hgd:o.guard=none) (d s:Operand) (dT sT:TypeId)
  (ho:o.op= .call {callee:= .builtin .copy,args:= #[d,s],argTypes:= #[dT,sT]}) (elem:TypeId) (hu:P.underlying dT=some (.slice elem)) (hsz:(P.info? elem).map (·.size)=some 1)
  (dp sp:Option Addr) (dLen dCap sLen sCap:Nat) (hd:a.eval d= .slice dp dLen dCap) (hs:a.eval s= .slice sp sLen sCap)
  (g off:Nat) (t:TypeId) (cs:List Value) (hb:Blk w g t cs) (ds:List Value) (q:Nat) (hq:ds.length=q) (hn:q=Nat.min sLen dLen)
  (hpos:0<ds.length→dp=some ⟨g,off,none⟩∧ ∃ad,sp=some ad∧ ∀j v,ds[j]? =some v→w.cell? (ad.add j)=some v)
  (hfit:off+ds.length≤cs.length) (h1: ∀v∈ds,v.oneCell'=true)
  (h: ∀w',Blk w' g t (splice cs off ds)→w.grownBy w' (some g)→K (a.put o.dst (goInt q)) w'):
  if Region.wanted o (yielded ops a.tmps)=true then Oper.wp P o a w K Q else E:=by
 have hw:Region.wanted o (yielded ops a.tmps)=true:=by simp[Region.wanted,hgd]
 rw[if_pos hw]
 exact zjZ d s dT sT ho elem hu hsz dp sp dLen dCap sLen sCap hd hs g off t cs hb ds q hq hn hpos hfit h1 h
end
theorem zcn {P:Program} (t e:TypeId) (n:Nat) (ht:P.underlying t=some (.array n e)) (hsz:(P.info? e).map (·.size)=some 1) (g o l:Nat) (hl:l<n) (k:IntKind) (w:World):
  (Instr.sliceAt t (.pointer (some ⟨g,o,none⟩)) (some (.int k (l:Int))) none none).run P w= .ok (.slice (some ⟨g,o+l,none⟩) (n-l) (n-l)) w:=by
 have e1:P.elem t=e:=by simp[Program.elem,ht]
 have e2:P.arrayLen t=n:=by simp[Program.arrayLen,ht]
 rw[run_sliceAt_array_l w t ⟨g,o,none⟩ (by rw[e1,e2];exact ht) k l (by omega) (by rw[e2];omega),e1,e2]
 cases hq:P.info? e with
 |none=>simp[hq]at hsz
 |some inf=>
  have hs:inf.size=1:=by simpa[hq]using hsz
  simp[sizeOf,typeInfo,hq,hs,slicedAt,Addr.add_mid]
  omega
theorem zeg {P:Program} (t e:TypeId) (n:Nat) (ht:P.underlying t=some (.array n e)) (hsz:(P.info? e).map (·.size)=some 1) (g o h:Nat) (_hn:0<n) (hl:h≤n) (k:IntKind) (w:World):
  (Instr.sliceAt t (.pointer (some ⟨g,o,none⟩)) none (some (.int k (h:Int))) none).run P w= .ok (.slice (some ⟨g,o,none⟩) h n) w:=by
 have e1:P.elem t=e:=by simp[Program.elem,ht]
 have e2:P.arrayLen t=n:=by simp[Program.arrayLen,ht]
 rw[run_sliceAt_array_h w t ⟨g,o,none⟩ (by rw[e1,e2];exact ht) k h (by omega) (by rw[e2];omega),e1,e2]
 cases hq:P.info? e with
 |none=>simp[hq]at hsz
 |some inf=>
  have hs:inf.size=1:=by simpa[hq]using hsz
  simp[sizeOf,typeInfo,hq,hs,slicedAt,Addr.add_mid]
theorem zbQ {P:Program} (t e:TypeId) (n:Nat) (ht:P.underlying t=some (.array n e)) (hsz:(P.info? e).map (·.size)=some 1) (g o:Nat) (_hn:0<n) (w:World):
  (Instr.sliceAt t (.pointer (some ⟨g,o,none⟩)) none none none).run P w= .ok (.slice (some ⟨g,o,none⟩) n n) w:=by
 have e1:P.elem t=e:=by simp[Program.elem,ht]
 have e2:P.arrayLen t=n:=by simp[Program.arrayLen,ht]
 rw[run_sliceAt_array_all w t ⟨g,o,none⟩ (by rw[e1,e2];exact ht),e1,e2]
 cases hq:P.info? e with
 |none=>simp[hq]at hsz
 |some inf=>
  have hs:inf.size=1:=by simpa[hq]using hsz
  simp[sizeOf,typeInfo,hq,hs,slicedAt,Addr.add_mid]
theorem zfc {P:Program} (t e:TypeId) (ht:P.underlying t=some (.slice e)) (hsz:(P.info? e).map (·.size)=some 1) (A:Option Addr) (n c l:Nat) (hl:l≤n) (k:IntKind) (w:World):
  (Instr.sliceAt t (.slice A n c) (some (.int k (l:Int))) none none).run P w= .ok (.slice (if c=l then A else A.map (·.add l)) (n-l) (c-l)) w:=by
 have e1:P.elem t=e:=by simp[Program.elem,ht]
 rw[run_sliceAt_slice (P:=P) w t _ _ _ _ (by rw[e1];exact ht),run_slice_l w t A n c (by rw[e1];exact ht) k l (by omega) (by omega),e1]
 cases hq:P.info? e with
 |none=>simp[hq]at hsz
 |some inf=>
  have hs:inf.size=1:=by simpa[hq]using hsz
  simp[sizeOf,typeInfo,hq,hs,sliced]
def Src (w:World) (g:Nat) (A:Option Addr) (xs:List Int):Prop:=
 0<xs.length→ ∃b o,A=some ⟨b,o,none⟩∧b≠g∧b<w.heap.size∧ ∀j v,(ints .u8 xs)[j]? =some v→w.cell? ⟨b,o+j,none⟩=some v
theorem Src.grown {w w':World} {g:Nat} {A:Option Addr} {xs:List Int} (h:Src w g A xs) {row:Option Nat} (hb:w.grownBy w' row) (hr:row=none∨row=some g):Src w' g A xs:=fun hp=>by
 obtain⟨b,o,e,hne,hlt,hc⟩:=h hp
 refine⟨b,o,e,hne,Nat.lt_of_lt_of_le hlt hb.size,fun j v hv=> ?_⟩
 rw[World.cell?_of_block (w:=w) (hb.block b hlt (by rcases hr with rfl|rfl<;>simp[hne]))]
 exact hc j v hv
theorem Src.below {w w':World} {g:Nat} {A:Option Addr} {xs:List Int} (h:Src w g A xs) (hb:Below w.heap.size w w'):Src w' g A xs:=h.grown (zaX hb none) (.inl rfl)
theorem Src.drop {w:World} {g:Nat} {A:Option Addr} {xs:List Int} (h:Src w g A xs) (k:Nat):Src w g (A.map (·.add k)) (xs.drop k):=fun hp=>by
 simp only[List.length_drop]at hp
 obtain⟨b,o,rfl,hne,hlt,hc⟩:=h (by omega)
 refine⟨b,o+k,by simp[Addr.add_mid],hne,hlt,fun j v hv=> ?_⟩
 have:=hc (k+j) v (by simpa[ints,List.getElem?_drop]using hv)
 rwa [←Nat.add_assoc]at this
theorem Src.nil (w:World) (g:Nat) (A:Option Addr):Src w g A []:=fun h=>absurd h (by simp)
theorem Src.blk {w:World} {g b o:Nat} {t:TypeId} {cs:List Value} (h:Blk w b t cs) (hne:b≠g) {xs:List Int} (hx: ∀j v,(ints .u8 xs)[j]? =some v→cs[o+j]? =some v):Src w g (some ⟨b,o,none⟩) xs:=
 fun _=>⟨b,o,rfl,hne,h.lt,fun j v hv=>(h.cell _).trans (hx j v hv)⟩
theorem Src.src {w:World} {g:Nat} {A:Option Addr} {xs:List Int} (h:Src w g A xs) (k:Nat):0<(ints .u8 (xs.take k)).length→ ∃ad,A=some ad∧ ∀j v,(ints .u8 (xs.take k))[j]? =some v→w.cell? (ad.add j)=some v:=fun hp=>by
 simp only[length_ints,List.length_take]at hp
 obtain⟨b,o,rfl,_,_,hc⟩:=h (by omega)
 refine⟨_,rfl,fun j v hv=> ?_⟩
 rw[Addr.add_mid]
 refine hc j v ?_
 have hj:=(List.getElem?_eq_some_iff.1 hv).1
 simp only[length_ints,List.length_take]at hj
 simp only[ints,List.map_take,List.getElem?_take]at hv
 rw[if_pos (by omega)]at hv
 exact hv
def Bytes (l:List Int):Prop:= ∀i,0≤l.getD i 0∧l.getD i 0≤255
theorem Bytes.mem {l:List Int} (h:Bytes l) {x:Int} (hx:x∈l):0≤x∧x≤255:=by
 obtain⟨i,hi,rfl⟩:=List.mem_iff_getElem.1 hx
 have:=h i
 simpa[hi]using this
theorem Bytes.of_mem {l:List Int} (h: ∀x∈l,0≤x∧x≤255):Bytes l:=fun i=>by
 rw[List.getD_eq_getElem?_getD]
 rcases Nat.lt_or_ge i l.length with hi|hi
 ·rw[List.getElem?_eq_getElem hi];exact h _ (List.getElem_mem hi)
 ·rw[List.getElem?_eq_none hi];decide
theorem Bytes.append {l m:List Int} (h:Bytes l) (k:Bytes m):Bytes (l++m):= .of_mem fun x hx=>by
 rcases List.mem_append.1 hx with hx|hx
 ·exact h.mem hx
 ·exact k.mem hx
theorem Bytes.take {l:List Int} (h:Bytes l) (n:Nat):Bytes (l.take n):= .of_mem fun _ hx=>h.mem (List.mem_of_mem_take hx)
theorem Bytes.drop {l:List Int} (h:Bytes l) (n:Nat):Bytes (l.drop n):= .of_mem fun _ hx=>h.mem (List.mem_of_mem_drop hx)
theorem Bytes.right {l m:List Int} (h:Bytes (l++m)):Bytes m:= .of_mem fun _ hx=>h.mem (List.mem_append_right _ hx)
theorem Bytes.splice {l m:List Int} (h:Bytes l) (k:Bytes m) (n:Nat):Bytes (splice l n m):=(h.take _).append (k.append (h.drop _))
def Lies (w:World) (A:Option Addr) (xs:List Int):Prop:=Src w w.heap.size A xs
theorem Lies.src {w:World} {A:Option Addr} {xs:List Int} (h:Lies w A xs) {g:Nat} (hg:w.heap.size≤g):Src w g A xs:=fun hp=>by
 obtain⟨b,o,e,_,hlt,hc⟩:=h hp
 exact⟨b,o,e,by omega,hlt,hc⟩
theorem Lies.of {w:World} {A:Option Addr} {xs:List Int} {g:Nat} (h:Src w g A xs):Lies w A xs:=fun hp=>by
 obtain⟨b,o,e,_,hlt,hc⟩:=h hp
 exact⟨b,o,e,by omega,hlt,hc⟩
theorem Lies.below {w w':World} {A:Option Addr} {xs:List Int} (h:Lies w A xs) (hb:Below w.heap.size w w'):Lies w' A xs:=Lies.of (Src.below h hb)
theorem Lies.blk {w:World} {b o:Nat} {t:TypeId} {cs:List Value} (h:Blk w b t cs) {xs:List Int} (hx: ∀j v,(ints .u8 xs)[j]? =some v→cs[o+j]? =some v):Lies w (some ⟨b,o,none⟩) xs:=
 Src.blk h (by have:=h.lt;omega) hx
theorem Lies.whole {w:World} {b:Nat} {t:TypeId} {xs:List Int} (h:Blk w b t (ints .u8 xs)):Lies w (some ⟨b,0,none⟩) xs:=Lies.blk h (by simp)
theorem zad (w:World) (o:Obj):Below w.heap.size w (w.alloc o):=(Below.refl _ w).alloc (Nat.le_refl _) _
def strL (s:ByteArray):List Int:=s.data.toList.map fun b=>(b.toNat:Int)
theorem zaQ (s:ByteArray):(strL s).length=s.size:=by simp[strL]
theorem zaz (s:ByteArray):Bytes (strL s):= .of_mem fun x hx=>by
 obtain⟨b,_,rfl⟩:=List.mem_map.1 hx
 have:=b.toNat_lt
 omega
theorem zdb {a b:ByteArray} (h:strL a=strL b):a=b:=by
 have:a.data.toList=b.data.toList:=by
  refine(List.map_inj_right (f:=fun b:UInt8=>(b.toNat:Int)) ?_).1 h
  intro x y hxy
  exact UInt8.toNat_inj.1 (by omega)
 cases a;cases b
 congr 1
 exact Array.toList_inj.1 this
theorem zgd (w:World) (e:TypeId) (s:ByteArray):Below w.heap.size w (Lib.bytesWorld w e s):=
 ⟨rfl,rfl,rfl,by rw[Lib.bytesWorld_size];omega,fun k hk=>Lib.bytesWorld_at_old w e s k hk⟩
theorem liesBytes (w:World) (e:TypeId) (s:ByteArray):Lies (Lib.bytesWorld w e s) (some ⟨w.heap.size,0,none⟩) (strL s):=fun _=>
 ⟨w.heap.size,0,rfl,by rw[Lib.bytesWorld_size];omega,by rw[Lib.bytesWorld_size];omega,fun j v hv=>by
  have hj:j<s.size:=by
   have:=(List.getElem?_eq_some_iff.1 hv).1
   rw[length_ints,zaQ]at this;exact this
  rw[Nat.zero_add,Lib.bytesWorld_cell w e s j hj,←hv]
  have hj2:j<s.data.toList.length:=by simpa using hj
  simp[ints,strL,List.getD,hj]⟩
section
variable {P:Program} {w:World} {ops:Array Oper} {rest:List Oper} {o:Oper} {a:Act} {Q:Exit→Act→World→Prop}
theorem zbj (hgd:o.guard=none) (d:Option Tmp) (hdst:o.dst=d) (src dst e:TypeId) (x:Operand) (ho:o.op= .convert src dst x) (s:ByteArray) (hx:a.eval x= .string s)
  {u:TypeDesc} (hs:P.underlying src=some u) (hd:P.underlying dst=some (.slice e)) (he:P.underlying e=some (.int .u8))
  (h: ∀A c w',Lies w' A (strL s)→s.size≤c→Below w.heap.size w w'→wpList P ops Q rest (a.put d (.slice A s.size c)) w'):wpList P ops Q (o::rest) a w:=by
 subst hdst
 refine wpList_plain hgd fun K hK=> ?_
 unfold Oper.wp execOp
 simp only[ho,hx,Sem.run_bind,Lib.run_convert_string_bytes w src dst e s hs hd he,Result.andThen_ok]
 exact hK _ _ (h _ _ _ (liesBytes w e s) (grownCap_ge w s.size 0 e) (zgd w e s))
end
theorem zcK (s t:ByteArray):(s.toList==t.toList)=decide (s=t):=by
 rw[Bool.eq_iff_iff,beq_iff_eq,decide_eq_true_eq]
 constructor
 ·intro h
  rw[ByteArray.toList_eq,ByteArray.toList_eq]at h
  cases s;cases t
  congr 1
  exact Array.toList_inj.1 h
 ·rintro rfl;rfl
theorem zcq {k:IntKind} {a b:Int} (h:a=b):Ending.returned (.int k a)= .returned (.int k b):=by rw[h]
theorem zaa {w:World} {a:Addr} {v:Value} (h:w.cell? a=some v):a.block<w.heap.size:=by
 rcases Nat.lt_or_ge a.block w.heap.size with h'|h'
 ·exact h'
 ·simp[World.cell?,Array.getElem?_eq_none h']at h
def toU (l:List Int):List UInt8:=l.map fun x=>UInt8.ofNat x.toNat
def toS (l:List Int):ByteArray:=⟨(toU l).toArray⟩
theorem zmi {x:Int} (h:0≤x∧x≤255):((UInt8.ofNat x.toNat).toNat:Int)=x:=by
 rw[UInt8.toNat_ofNat'];omega
theorem zcb {l:List Int} (h:Bytes l):strL (toS l)=l:=by
 simp only[strL,toS,toU,List.map_map]
 conv=>rhs;rw[←List.map_id l]
 refine List.map_congr_left fun x hx=> ?_
 exact zmi (h.mem hx)
theorem zin (s:ByteArray):toS (strL s)=s:=zdb (zcb (zaz s))
theorem zcm (l:List Int):(toS l).size=l.length:=by
 show(toU l).toArray.size=_
 simp[toU]
theorem zez (a b:ByteArray):strL (a++b)=strL a++strL b:=by
 simp only[strL,ByteArray.data_append,Array.toList_append,List.map_append]
theorem zax (s:ByteArray) (a b:Nat):strL (s.extract a b)=((strL s).take b).drop a:=by
 simp only[strL,ByteArray.data_extract,Array.toList_extract,List.extract_eq_take_drop,List.map_take,List.map_drop,List.drop_take]
theorem zbp (s:ByteArray) (k:Nat) (h:k<s.size):(strL s).getD k 0=(s[k].toNat:Int):=by
 have h2:k<s.data.toList.length:=by simpa using h
 rw[List.getD_eq_getElem?_getD,strL,List.getElem?_map,List.getElem?_eq_getElem h2]
 simp
 rfl
theorem eq_toS {s:ByteArray} {l:List Int} (hl:Bytes l):s=toS l↔strL s=l:=
 ⟨fun h=>by rw[h,zcb hl],fun h=>by rw[←h,zin]⟩
theorem zdf {w:World} {base:Nat} {e:TypeId} {size:Nat} {v:Value} {n:Nat} {xs:List Value} (h:w.ownsRow base e size v n xs): ∀g,v.ownBlock=some g→base≤g:=fun g hg=>by
 rcases h.2 with⟨rfl,_⟩|⟨g',cap,cur,rfl,hb,_⟩
 ·simp[Value.ownBlock]at hg
 ·have:g'=g:=by simpa[Value.ownBlock]using hg
  omega
theorem znZ {w:World} {B e:Nat} {v:Value} {n:Nat} {xs:List Int} (h:w.ownsRow B e 1 v n (ints .u8 xs)) (hn:xs.length=n): ∃A c,v= .slice A n c∧n≤c∧Lies w A xs:=by
 have h0:=h
 rcases h.2 with⟨rfl,rfl⟩|⟨g,cap,cur,rfl,hb,hcell,hle,hm,_⟩
 ·exact⟨none,0,rfl,Nat.le_refl _,fun hp=>by omega⟩
 ·refine⟨_,cap,rfl,hle,fun _=>⟨g,0,rfl,?_,?_,fun j v hv=> ?_⟩⟩
  ·have:=(h0.lt g rfl).2;omega
  ·exact(h0.lt g rfl).2
  ·have hj:=(List.getElem?_eq_some_iff.1 hv).1
   rw[length_ints,hn]at hj
   rw[Nat.zero_add,h0.cellAt j (by omega)]
   exact hv
theorem zdo (A:Option Addr) (xs:List Int) (n c:Nat) (w:World) (hn:xs.length=n) (hl:Lies w A xs):
  (convert 46 9 (.slice A n c)).run Tryz.prog w= .ok (.string (toS xs)) w:=by
 rw[run_convert_bytes_string w _ _ 5 _ _ _ Tryz.underlying46 Tryz.underlying5 Tryz.underlying9]
 cases A with
 |none=>
  have:xs=[]:=by
   rcases xs with _|⟨x,r⟩
   ·rfl
   ·obtain⟨b,o,h,_⟩:=hl (by simp)
    cases h
  subst this
  rfl
 |some ad=>
  have hcells: ∀j u,(ints .u8 xs)[j]? =some u→w.cell? (ad.add j)=some u:=fun j u hu=>by
   have hj:=(List.getElem?_eq_some_iff.1 hu).1
   rw[length_ints]at hj
   obtain⟨b,o,h,_,_,hc⟩:=hl (by omega)
   injection h with h
   subst h
   rw[Addr.add_mid]
   exact hc j u hu
  have hld:(loadCells ad n).run Tryz.prog w= .ok (ints .u8 xs).toArray w:=by
   have:=run_loadCells_list (P:=Tryz.prog) w ad (ints .u8 xs) hcells
   rw[length_ints,hn]at this;exact this
  rw[run_bytesToString w _ _ _ xs hld,foldl_push_bytes,show ByteArray.empty.data= #[]from rfl,Array.empty_append]
  rfl
section
variable {P:Program} {w:World} {ops:Array Oper} {rest:List Oper} {o:Oper} {a:Act} {Q:Exit→Act→World→Prop}
end
theorem Lies.take {w:World} {A:Option Addr} {xs:List Int} (h:Lies w A xs) (n:Nat):Lies w A (xs.take n):=fun hp=>by
 simp only[List.length_take]at hp
 obtain⟨b,o,e,h1,h2,hc⟩:=h (by omega)
 refine⟨b,o,e,h1,h2,fun j v hv=>hc j v ?_⟩
 have hj:=(List.getElem?_eq_some_iff.1 hv).1
 simp only[length_ints,List.length_take]at hj
 simp only[ints,List.map_take,List.getElem?_take]at hv
 rw[if_pos (by omega)]at hv
 exact hv
theorem zef (x:Int) (k:Nat) (hk:k≤62) (h0:0≤x) (h1:x<9223372036854775808):bits .and .i64 x (2^k-1)=x%2^k:=by
 obtain⟨a,rfl⟩:=Int.eq_ofNat_of_zero_le h0
 have hk2:2^k≤2^62:=Nat.pow_le_pow_right (by decide) hk
 have hp:0<2^k:=Nat.two_pow_pos k
 have e0:((2:Int)^k-1)=((2^k-1:Nat):Int):=by rw[Int.ofNat_sub hp];simp
 have h:(BitVec.ofInt 64 (a:Int)&&& BitVec.ofInt 64 ((2^k-1:Nat):Int)).toNat=a%2^k:=by
  rw[BitVec.toNat_and,BitVec.toNat_ofInt,BitVec.toNat_ofInt]
  have e1:((a:Int)%(2^64:Nat)).toNat=a:=by omega
  have e2:(((2^k-1:Nat):Int)%(2^64:Nat)).toNat=2^k-1:=by omega
  rw[e1,e2,Nat.and_two_pow_sub_one_eq_mod]
 rw[e0]
 show IntKind.i64.wrap ((BitVec.ofInt 64 (a:Int)&&& BitVec.ofInt 64 ((2^k-1:Nat):Int)).toNat:Int)=_
 rw[h,IntKind.wrap_i64]
 have:a%2^k<2^k:=Nat.mod_lt _ hp
 have e3:((a:Int)%2^k)=((a%2^k:Nat):Int):=by simp
 rw[e3]
 omega
theorem or_i64 (x y:Nat) (hx:x<9223372036854775808) (hy:y<9223372036854775808):bits .or .i64 (x:Int) (y:Int)=((x|||y:Nat):Int):=by
 have h:(BitVec.ofInt 64 (x:Int)|||BitVec.ofInt 64 (y:Int)).toNat=x|||y:=by
  rw[BitVec.toNat_or,BitVec.toNat_ofInt,BitVec.toNat_ofInt]
  congr 1<;>omega
 have hl:x|||y<2^63:=Nat.or_lt_two_pow (by omega) (by omega)
 show IntKind.i64.wrap ((BitVec.ofInt 64 (x:Int)|||BitVec.ofInt 64 (y:Int)).toNat:Int)=_
 rw[h,IntKind.wrap_i64]
 omega
theorem zgK (hi lo:Int) (k:Nat) (h0:0≤lo) (h1:lo<2^k) (h2:0≤hi) (h3:hi*2^k+lo<9223372036854775808):bits .or .i64 (hi*2^k) lo=hi*2^k+lo:=by
 obtain⟨a,rfl⟩:=Int.eq_ofNat_of_zero_le h0
 obtain⟨b,rfl⟩:=Int.eq_ofNat_of_zero_le h2
 have hk:a<2^k:=by
  have e:((2:Int)^k)=((2^k:Nat):Int):=by simp
  rw[e]at h1
  exact Int.ofNat_lt.1 h1
 have e:((b:Int)*2^k)=((b*2^k:Nat):Int):=by simp
 have h3':b*2^k+a<9223372036854775808:=by
  rw[e,←Int.natCast_add]at h3
  exact Int.ofNat_lt.1 h3
 rw[e,or_i64 (b*2^k) a (by omega) (by omega),←Nat.shiftLeft_eq,←Nat.shiftLeft_add_eq_or_of_lt hk b,Nat.shiftLeft_eq]
 simp
def putL (n:Int):List Int:=
 if n<0∨1114111<n∨(55296≤n∧n≤57343)then[]else if n<128 then[n]else if n<2048 then[192+n/64,128+n%64]
 else if n<65536 then[224+n/4096,128+n/64%64,128+n%64]else[240+n/262144,128+n/4096%64,128+n/64%64,128+n%64]
def zbs (c:Int):Nat:=if 240≤c then 4 else if 224≤c then 3 else if 192≤c then 2 else 1
def zfl (k:Nat):Int:=if k=4 then 240 else if k=3 then 224 else if k=2 then 192 else 0
def accL (c0:Int) (l:List Int):Nat→Int
 |0=>c0
 |i+1=>accL c0 l i*64+l.getD (i+1) 0%64
def zdp (l:List Int):Int:=accL (l.getD 0 0-zfl (zbs (l.getD 0 0))) l (zbs (l.getD 0 0)-1)
def nxL (l:List Int):Int×Nat:=
 if l.length=0 then(-1,0)else if l.length<zbs (l.getD 0 0)then(-1,1)
 else if putL (zdp l)=l.take (zbs (l.getD 0 0))then(zdp l,zbs (l.getD 0 0))else(-1,1)
theorem zim (c:Int):1≤zbs c∧zbs c≤4:=by unfold zbs;split<;>(try split)<;>(try split)<;>omega
theorem zhY {n:Int} (h:n<0∨1114111<n∨(55296≤n∧n≤57343)):putL n=[]:=if_pos h
theorem zea {n:Int} (h:0≤n) (h1:n<128):putL n=[n]:=by unfold putL;rw[if_neg (by omega),if_pos h1]
theorem zmz {n:Int} (h:128≤n) (h1:n<2048):putL n=[192+n/64,128+n%64]:=by unfold putL;rw[if_neg (by omega),if_neg (by omega),if_pos h1]
theorem zhu {n:Int} (h:2048≤n) (h1:n<65536) (h2:n<55296∨57343<n):putL n=[224+n/4096,128+n/64%64,128+n%64]:=by unfold putL;rw[if_neg (by omega),if_neg (by omega),if_neg (by omega),if_pos h1]
theorem zjs {n:Int} (h:65536≤n) (h1:n≤1114111):putL n=[240+n/262144,128+n/4096%64,128+n/64%64,128+n%64]:=by unfold putL;rw[if_neg (by omega),if_neg (by omega),if_neg (by omega),if_neg (by omega)]
theorem zcs (n:Int):(putL n=[]∧(n<0∨1114111<n∨(55296≤n∧n≤57343)))∨(0≤n∧n<128∧putL n=[n])∨(128≤n∧n<2048∧putL n=[192+n/64,128+n%64])
  ∨(2048≤n∧n<65536∧(n<55296∨57343<n)∧putL n=[224+n/4096,128+n/64%64,128+n%64])∨(65536≤n∧n≤1114111∧putL n=[240+n/262144,128+n/4096%64,128+n/64%64,128+n%64]):=by
 by_cases h0:n<0∨1114111<n∨(55296≤n∧n≤57343)
 ·exact .inl ⟨zhY h0,h0⟩
 ·by_cases h1:n<128
  ·exact .inr (.inl ⟨by omega,h1,zea (by omega) h1⟩)
  ·by_cases h2:n<2048
   ·exact .inr (.inr (.inl ⟨by omega,h2,zmz (by omega) h2⟩))
   ·by_cases h3:n<65536
    ·exact .inr (.inr (.inr (.inl ⟨by omega,h3,by omega,zhu (by omega) h3 (by omega)⟩)))
    ·exact .inr (.inr (.inr (.inr ⟨by omega,by omega,zjs (by omega) (by omega)⟩)))
theorem zdc (n:Int):(putL n).length≤4:=by
 rcases zcs n with⟨h,_⟩|⟨_,_,h⟩|⟨_,_,h⟩|⟨_,_,_,h⟩|⟨_,_,h⟩<;>rw[h]<;>simp
theorem zgX (n:Int):Bytes (putL n):= .of_mem fun x hx=>by
 rcases zcs n with⟨h,_⟩|⟨_,_,h⟩|⟨_,_,h⟩|⟨_,_,_,h⟩|⟨_,_,h⟩<;>rw[h]at hx<;>simp at hx<;>omega
theorem putL_want {n c:Int} {r:List Int} (h:putL n=c::r):zbs c=(putL n).length∧c-zfl (zbs c)=c%(if zbs c=1 then 256 else if zbs c=2 then 32 else if zbs c=3 then 16 else 8):=by
 rcases zcs n with⟨h',_⟩|⟨_,_,h'⟩|⟨_,_,h'⟩|⟨_,_,_,h'⟩|⟨_,_,h'⟩<;>rw[h']at h
 ·cases h
 all_goals
  obtain⟨h1,h2⟩:=List.cons.inj h
  rw[h']
 ·have:zbs c=1:=by unfold zbs;rw[if_neg (by omega),if_neg (by omega),if_neg (by omega)]
  rw[this];refine⟨rfl,?_⟩;show c-0=c%256;omega
 ·have:zbs c=2:=by unfold zbs;rw[if_neg (by omega),if_neg (by omega),if_pos (by omega)]
  rw[this];refine⟨rfl,?_⟩;show c-192=c%32;omega
 ·have:zbs c=3:=by unfold zbs;rw[if_neg (by omega),if_pos (by omega)]
  rw[this];refine⟨rfl,?_⟩;show c-224=c%16;omega
 ·have:zbs c=4:=by unfold zbs;rw[if_pos (by omega)]
  rw[this];refine⟨rfl,?_⟩;show c-240=c%8;omega
theorem cand_put {n:Int} (h:putL n≠[]) (s:List Int):zdp (putL n++s)=n:=by
 rcases zcs n with⟨h',_⟩|⟨_,_,h'⟩|⟨_,_,h'⟩|⟨_,_,_,h'⟩|⟨_,_,h'⟩
 ·exact absurd h' h
 all_goals
  have hw:=(putL_want h').1
  rw[h']at hw
  simp only[List.length_cons,List.length_nil,Nat.zero_add,Nat.reduceAdd]at hw
  rw[h']
  simp only[zdp,List.cons_append,List.nil_append,List.getD_cons_zero,hw,zfl,Nat.reduceSub,accL,List.getD_cons_succ]
  simp
  try omega
theorem nx_put {n:Int} (h:putL n≠[]) (s:List Int):nxL (putL n++s)=(n,(putL n).length):=by
 obtain⟨c,r,hc⟩:=List.exists_cons_of_ne_nil h
 have hw:=(putL_want hc).1
 have h0:(putL n++s).getD 0 0=c:=by rw[hc];rfl
 have hl:(putL n).length≠0:=by simpa using h
 unfold nxL
 rw[h0,if_neg (by rw[List.length_append];omega),if_neg (by rw[List.length_append,hw];omega),cand_put h,hw,if_pos (by simp)]
theorem zlp {l:List Int} {n:Int} (h:putL n≠[]) (ht:putL n=l.take (putL n).length):nxL l=(n,(putL n).length):=by
 have:=nx_put h (l.drop (putL n).length)
 have e:putL n++l.drop (putL n).length=l:=by
  have h2:=List.take_append_drop (putL n).length l
  rw[←ht]at h2
  exact h2
 rwa [e]at this
theorem nx_cases (l:List Int):(nxL l=(-1,0)∧l=[])∨(nxL l=(-1,1)∧l≠[])∨
  (nxL l=(zdp l,zbs (l.getD 0 0))∧zbs (l.getD 0 0)≤l.length∧putL (zdp l)=l.take (zbs (l.getD 0 0))∧(putL (zdp l)).length=zbs (l.getD 0 0)∧0≤zdp l):=by
 by_cases h0:l.length=0
 ·exact .inl ⟨by unfold nxL;rw[if_pos h0],List.eq_nil_of_length_eq_zero h0⟩
 ·have hne:l≠[]:=fun e=>h0 (by rw[e];rfl)
  by_cases h1:l.length<zbs (l.getD 0 0)
  ·exact .inr (.inl ⟨by unfold nxL;rw[if_neg h0,if_pos h1],hne⟩)
  ·by_cases h2:putL (zdp l)=l.take (zbs (l.getD 0 0))
   ·have hl:(putL (zdp l)).length=zbs (l.getD 0 0):=by rw[h2,List.length_take];omega
    refine .inr (.inr ⟨by unfold nxL;rw[if_neg h0,if_neg h1,if_pos h2],by omega,h2,hl,?_⟩)
    rcases Int.lt_or_le (zdp l) 0 with hn|hn
    ·rw[zhY (.inl hn),List.length_nil]at hl
     have:=zim (l.getD 0 0)
     omega
    ·exact hn
   ·exact .inr (.inl ⟨by unfold nxL;rw[if_neg h0,if_neg h1,if_neg h2],hne⟩)
theorem nx_bd (l:List Int): -1≤(nxL l).1∧(nxL l).1≤1114111∧(nxL l).2≤4∧(nxL l).2≤l.length:=by
 rcases nx_cases l with⟨h,e⟩|⟨h,e⟩|⟨h,h1,h2,h3,h4⟩
 ·rw[h];simp
 ·rw[h]
  have:l.length≠0:=fun h=>e (List.eq_nil_of_length_eq_zero h)
  refine⟨?_,?_,?_,?_⟩<;>simp<;>omega
 ·rw[h]
  have hw:=zim (l.getD 0 0)
  refine⟨by show-1≤zdp l;omega,?_,hw.2,h1⟩
  show zdp l≤1114111
  rcases Int.lt_or_le 1114111 (zdp l)with hn|hn
  ·rw[zhY (.inr (.inl hn)),List.length_nil]at h3
   omega
  ·exact hn
theorem zcZ {l:List Int} (h:(nxL l).1≠ -1):putL (nxL l).1=l.take (nxL l).2∧(putL (nxL l).1).length=(nxL l).2∧1≤(nxL l).2∧(nxL l).2≤l.length∧(nxL l).2≤4∧0≤(nxL l).1∧putL (nxL l).1≠[]:=by
 rcases nx_cases l with⟨e,_⟩|⟨e,_⟩|⟨e,h1,h2,h3,h4⟩
 ·rw[e]at h;exact absurd rfl h
 ·rw[e]at h;exact absurd rfl h
 ·have hw:=zim (l.getD 0 0)
  rw[e]
  refine⟨h2,h3,hw.1,h1,hw.2,h4,fun hn=> ?_⟩
  simp only at hn
  rw[hn,List.length_nil]at h3
  omega
def endL (l:List Int):Nat→Nat
 |0=>0
 |fuel+1=>if(nxL l).1= -1 then 0 else(nxL l).2+endL (l.drop (nxL l).2) fuel
theorem endL_fuel: ∀(f g:Nat) (l:List Int),l.length≤f→l.length≤g→endL l f=endL l g
 |0,0,_,_,_=>rfl
 |0,g+1,l,h,_=>by
  obtain rfl:=List.eq_nil_of_length_eq_zero (Nat.le_zero.1 h)
  rfl
 |f+1,0,l,_,h=>by
  obtain rfl:=List.eq_nil_of_length_eq_zero (Nat.le_zero.1 h)
  rfl
 |f+1,g+1,l,hf,hg=>by
  rw[endL,endL]
  split
  ·rfl
  ·rename_i h
   have:=zcZ h
   rw[endL_fuel f g _ (by rw[List.length_drop];omega) (by rw[List.length_drop];omega)]
def badU (l:List Int):Nat:=endL l l.length
theorem zfs {l:List Int} (h:(nxL l).1= -1):badU l=0:=by
 unfold badU
 cases hl:l.length with
 |zero=>rfl
 |succ k=>rw[endL,if_pos h]
theorem zft {l:List Int} (h:(nxL l).1≠ -1):badU l=(nxL l).2+badU (l.drop (nxL l).2):=by
 have:=zcZ h
 unfold badU
 cases hl:l.length with
 |zero=>omega
 |succ k=>
  rw[endL,if_neg h,endL_fuel k _ (l.drop (nxL l).2) (by rw[List.length_drop];omega) (Nat.le_refl _)]
theorem badU_le: ∀(n:Nat) (l:List Int),l.length≤n→badU l≤l.length
 |0,l,h=>by
  obtain rfl:=List.eq_nil_of_length_eq_zero (Nat.le_zero.1 h)
  exact Nat.le_refl _
 |n+1,l,hl=>by
  by_cases h:(nxL l).1= -1
  ·rw[zfs h];omega
  ·have hf:=zcZ h
   have:=badU_le n (l.drop (nxL l).2) (by rw[List.length_drop];omega)
   rw[List.length_drop]at this
   rw[zft h];omega
theorem badU_le' (l:List Int):badU l≤l.length:=badU_le _ l (Nat.le_refl _)
theorem badU_from {l:List Int} {at_:Nat} (h:badU l=at_+badU (l.drop at_)) (hn:(nxL (l.drop at_)).1≠ -1):
  badU l=(at_+(nxL (l.drop at_)).2)+badU (l.drop (at_+(nxL (l.drop at_)).2)):=by
 rw[h,zft hn,List.drop_drop];omega
theorem toList_inj {a b:ByteArray} (h:a.toList=b.toList):a=b:=by
 rw[ByteArray.toList_eq,ByteArray.toList_eq]at h
 cases a;cases b
 congr 1
 exact Array.toList_inj.1 h
def hasN (l:List ByteArray) (x:ByteArray):Bool:=l.any fun y=>y.toList==x.toList
theorem hasN_iff {l:List ByteArray} {x:ByteArray}:hasN l x=true↔x∈l:=by
 unfold hasN
 rw[List.any_eq_true]
 constructor
 ·rintro⟨y,hy,e⟩
  rw[beq_iff_eq]at e
  rwa [←toList_inj e]
 ·exact fun h=>⟨x,h,by simp⟩
def nmL (s:ByteArray):List UInt8:=s.data.toList
theorem zlq (s:ByteArray):s.toList=nmL s:=ByteArray.toList_eq ..
def LiesN (w:World) (A:Option Addr) (ns:List ByteArray):Prop:=ns≠[]→ ∃b o,A=some ⟨b,o,none⟩∧b<w.heap.size∧ ∀i x,ns[i]? =some x→w.cell? ⟨b,o+i,none⟩=some (.string x)
theorem LiesN.below {w w':World} {A:Option Addr} {ns:List ByteArray} (h:LiesN w A ns) (hb:Below w.heap.size w w'):LiesN w' A ns:=fun hp=>by
 obtain⟨b,o,e,hlt,hc⟩:=h hp
 exact⟨b,o,e,Nat.lt_of_lt_of_le hlt hb.size,fun i x hi=>(hb.cell (p:=⟨b,o+i,Option.none⟩) hlt).trans (hc i x hi)⟩
theorem LiesN.at {w:World} {A:Option Addr} {ns:List ByteArray} (h:LiesN w A ns) {i:Nat} (hi:i<ns.length): ∃b o,A=some ⟨b,o,Option.none⟩∧b<w.heap.size∧w.cell? ⟨b,o+i,Option.none⟩=some (.string ns[i]):=by
 obtain⟨b,o,e,hlt,hc⟩:=h (by intro h0;rw[h0]at hi;exact absurd hi (by simp))
 exact⟨b,o,e,hlt,hc i _ (List.getElem?_eq_getElem hi)⟩
def NmOk (ns:List ByteArray):Prop:= ∀x∈ns,x.size≤1000000000
def SliceN (w:World) (v:Value) (ns:List ByteArray):Prop:= ∃A c,v= .slice A ns.length c∧ns.length≤c∧LiesN w A ns∧NmOk ns
def okB (c:Int):Bool:=decide ((97≤c∧c≤122)∨(48≤c∧c≤57)∨c=46∨c=58∨c=95∨c=45)
def zbJ (l:List Int):Bool:=decide (1≤l.length∧l.length≤32)&&l.all okB
theorem zcd {a b:Bool} (h:a=b):Ending.returned (.bool a)= .returned (.bool b):=by rw[h]
theorem drop_strN (s:ByteArray) (k:Nat) (h:k<s.size):(strL s).drop k=(s[k].toNat:Int)::(strL s).drop (k+1):=by
 rw[List.drop_eq_getElem_cons (by rw[zaQ];exact h)]
 congr 1
 have:=zbp s k h
 rw[List.getD_eq_getElem?_getD,List.getElem?_eq_getElem (by rw[zaQ];exact h)]at this
 exact this
theorem mayBeIn_any (c:Int) (w:World) (h0:0≤c) (h1:c≤255):
  Calls Tryz.prog 76 #[.int .u8 c] w fun e w'=>e= .returned (.bool (okB c))∧w=w':=by
 have key:((97≤c∧c≤122)∨(48≤c∧c≤57)∨c=46∨c=58∨c=95∨c=45)∨((¬97≤c∨ ¬c≤122)∧(¬48≤c∨ ¬c≤57)∧c≠46∧c≠58∧c≠95∧c≠45):=by omega
 rcases key with(⟨a,b⟩|⟨a,b⟩|rfl|rfl|rfl|rfl)|⟨k1,k2,e1,e2,e3,e4⟩
 ·have HR:Hid (okB c=true):=Lib.hid (by simp[okB,a,b])
  go_enter Tryz.func76,Tryz.ntmps76
  go_wp2
  all_goals(go_ret;exact⟨zcd HR.out.symm,rfl⟩)
 ·have HR:Hid (okB c=true):=Lib.hid (by simp[okB,a,b])
  have a1: ¬97≤c:=by omega
  go_enter Tryz.func76,Tryz.ntmps76
  go_wp2
  all_goals(go_ret;exact⟨zcd HR.out.symm,rfl⟩)
 ·go_enter Tryz.func76,Tryz.ntmps76
  go_wp2
  all_goals(go_ret;exact⟨rfl,rfl⟩)
 ·go_enter Tryz.func76,Tryz.ntmps76
  go_wp2
  all_goals(go_ret;exact⟨rfl,rfl⟩)
 ·go_enter Tryz.func76,Tryz.ntmps76
  go_wp2
  all_goals(go_ret;exact⟨rfl,rfl⟩)
 ·go_enter Tryz.func76,Tryz.ntmps76
  go_wp2
  all_goals(go_ret;exact⟨rfl,rfl⟩)
 ·have HR:Hid (okB c=false):=Lib.hid (by simp only[okB,decide_eq_false_iff_not];omega)
  have q1:(c==46)=false:=by simp[e1]
  have q2:(c==58)=false:=by simp[e2]
  have q3:(c==95)=false:=by simp[e3]
  have q4:(c==45)=false:=by simp[e4]
  clear e1 e2 e3 e4
  rcases k1 with k1|k1<;>rcases k2 with k2|k2
  all_goals
   go_enter Tryz.func76,Tryz.ntmps76
   go_wp2
   all_goals first|(exfalso;omega)|(go_ret;exact⟨zcd HR.out.symm,rfl⟩)
theorem nameB_len {l:List Int} (h:zbJ l=true):1≤l.length∧l.length≤32:=by
 unfold zbJ at h
 rw[Bool.and_eq_true]at h
 exact of_decide_eq_true h.1
theorem zlb (s:ByteArray) (w:World):
  Calls Tryz.prog 48 #[.string s] w fun e w'=>e= .returned (.bool (zbJ (strL s)))∧w=w':=by
 have HLEN:=Lib.hid (zaQ s)
 by_cases h1:s.size=0
 ·obtain rfl:s=⟨#[]⟩:=by
   obtain⟨d⟩:=s
   have:d.size=0:=h1
   rw[Array.eq_empty_of_size_eq_zero this]
  go_enter Tryz.func48,Tryz.ntmps48
  go_wp2
  go_ret
  exact⟨rfl,rfl⟩
 ·have hne:(s.toList==([]:List UInt8))=false:=by
   rw[beq_eq_false_iff_ne,ByteArray.toList_eq]
   intro e
   apply h1
   show s.data.size=0
   rw[←Array.length_toList,e];rfl
  have hne2:(s.toList==(⟨#[]⟩:ByteArray).toList)=false:=by rw[show(⟨#[]⟩:ByteArray).toList=[]by rw[ByteArray.toList_eq]];exact hne
  by_cases h2:s.size≤32
  ·have h3: ¬(32:Int)<(s.size:Int):=by omega
   have hn:zbJ (strL s)=(strL s).all okB:=by
    unfold zbJ
    rw[decide_eq_true (by rw[zaQ];omega),Bool.true_and]
   rw[hn]
   clear hn
   go_enter Tryz.func48,Tryz.ntmps48
   go_wp2
   go_loop [13] (fun v=> ∃k:Nat,k≤s.size∧v= .int .i64 (k:Int)∧(strL s).all okB=((strL s).drop k).all okB) (fun v=>s.size-(intOf v).toNat)
   case atStart=>exact⟨0,Nat.zero_le _,rfl,rfl⟩
   case round=>
    obtain⟨k,hk,rfl,hrun⟩:=hrel
    have HRUN:=Lib.hid hrun
    clear hrun
    by_cases hlt:k<s.size
    ·have hd:=drop_strN s k hlt
     have hi0:(0:Int)≤(k:Int):=by omega
     have hcb:=s[k].toNat_lt
     have HM:=Lib.hid (fun W:World=>mayBeIn_any (s[k].toNat:Int) W (by omega) (by omega))
     cases ho:okB (s[k].toNat:Int)with
     |false=>
      have HR:Hid ((strL s).all okB=false):=Lib.hid (by rw[HRUN.out,hd,List.all_cons,ho];rfl)
      rw[ho]at HM
      clear hd ho hcb
      go_wp2_with(go_at_call 76;(with_reducible refine(HM.out _).mono ?_);rintro e w' ⟨rfl,rfl⟩)
      go_ret
      exact⟨zcd HR.out.symm,rfl⟩
     |true=>
      have HR:Hid ((strL s).all okB=((strL s).drop (k+1)).all okB):=Lib.hid (by rw[HRUN.out,hd,List.all_cons,ho];rfl)
      rw[ho]at HM
      clear hd ho hcb
      go_wp2_with(go_at_call 76;(with_reducible refine(HM.out _).mono ?_);rintro e w' ⟨rfl,rfl⟩)
      go_round
      case rel=>exact⟨k+1,by omega,by go_num,HR.out⟩
      case measure=>simp[intOf];omega
    ·obtain rfl:k=s.size:=by omega
     have HR:Hid ((strL s).all okB=true):=Lib.hid (by rw[HRUN.out,List.drop_of_length_le (by rw[HLEN.out];exact Nat.le_refl _)];rfl)
     clear hlt
     go_wp2
     go_ret
     exact⟨zcd HR.out.symm,rfl⟩
  ·have h3:(32:Int)<(s.size:Int):=by omega
   have HR:Hid (zbJ (strL s)=false):=Lib.hid (by unfold zbJ;rw[decide_eq_false (by rw[zaQ];omega),Bool.false_and])
   go_enter Tryz.func48,Tryz.ntmps48
   go_wp2
   go_ret
   exact⟨zcd HR.out.symm,rfl⟩
end Go.Proofs.YtceddodfddlncaaGreatDoor
