
import Derived.WalkKit
import Derived.Below
import Derived.Laws.Rows
import Derived.Laws.Tables
import Derived.Laws.OwnMore
import Derived.Laws.CopyOwn
import Derived.Deep.Draws
import Derived.Deep.MidRow
import Derived.Deep.WholeRow
import Derived.Maps.AppendAt
import Derived.Lib.Hide
import Derived.Deep.RegionLaw
import Derived.Lib.ConvBytes
import Derived.Test.YtjfgmgkhinehaaaGreatDoorProg
import Derived.Laws.BytesString
import Derived.Laws.BytesArg
import Derived.Lib.SlicesCompact
import Derived.Maps.OwnSet
import Derived.Lib.OwnBridge
import Derived.Sort.OwnSorted
import Derived.Deep.RegionHeld3
import Derived.Deep.QuietTactic
import Derived.BigQuiet
import Derived.IntWalk
import Derived.Lib.IndexMore
import Derived.Shelf.Abstract
import Derived.Maps.RangeWalk
set_option maxRecDepth 100000
set_option maxHeartbeats 16000000
set_option linter.all false
namespace Go.Proofs.YtjfgmgkhinehaaaGreatDoor
open Go Go.RowKit
def Blk (w:World) (g:Nat) (t:TypeId) (cs:List Value):Prop:=w.heap[g]? =some (.cells cs.toArray t (0,0))
section
variable {w w':World} {g:Nat} {t:TypeId} {cs:List Value}
theorem Blk.lt (h:Blk w g t cs):g<w.heap.size:=by
 rcases Nat.lt_or_ge g w.heap.size with hlt|hge
 ·exact hlt
 ·unfold Blk at h;rw[Array.getElem?_eq_none hge]at h;cases h
theorem Blk.cell (h:Blk w g t cs) (i:Nat):w.cell? ⟨g,i,none⟩=cs[i]? :=by
 have:=cell_of_row w g i cs.toArray t (0,0) h
 simpa using this
theorem Blk.frozen (h:Blk w g t cs) (i:Nat):w.frozen? ⟨g,i,none⟩=false:=by
 unfold Blk at h
 simp[World.frozen?,h]
theorem Blk.drew (h:Blk w g t cs):Blk w.drew g t cs:=h
theorem Blk.drewN (h:Blk w g t cs) (n:Nat):Blk (w.drewN n) g t cs:=h
theorem Blk.below {B:Nat} (h:Blk w g t cs) (hb:Below B w w') (hg:g<B):Blk w' g t cs:=(hb.block g hg).trans h
theorem Blk.grown {row:Option Nat} (h:Blk w g t cs) (hb:w.grownBy w' row) (hg:some g≠row):Blk w' g t cs:=(hb.block g h.lt hg).trans h
theorem Blk.grownN (h:Blk w g t cs) (hb:w.grownBy w' none):Blk w' g t cs:=h.grown hb (by simp)
theorem Blk.there (h:Blk w g t cs) (o n:Nat) (hn:o+n≤cs.length):w.there g o n:=fun j hj=>by
 refine⟨?_,h.frozen _⟩
 rw[h.cell,List.getElem?_eq_getElem (by omega)];rfl
end
theorem zcQ {B:Nat} {a w:World} (h:Below B a w) (n:Nat):Below B a (w.drewN n):=⟨h.os,h.tape,h.output,h.size,h.block⟩
theorem zae (w:World) (row:Option Nat):w.grownBy w row:=⟨rfl,rfl,rfl,Nat.le_refl _,fun _ _ _=>rfl⟩
theorem zad {a w:World} (h:Below a.heap.size a w) (row:Option Nat):a.grownBy w row:=⟨h.os,h.tape,h.output,h.size,fun i hi _=>h.block i hi⟩
theorem znz {a w:World} {row:Option Nat} (h:a.grownBy w row) (n:Nat):a.grownBy (w.drewN n) row:=⟨h.os,h.tape,h.output,h.size,h.block⟩
theorem Blk.setCell {w:World} {g:Nat} {t:TypeId} {cs:List Value} (h:Blk w g t cs) (i:Nat) (v:Value):Blk (w.setCell ⟨g,i,none⟩ v) g t (cs.set i v):=by
 have:=heap_setCell_same w g i cs.toArray t v h
 unfold Blk
 rw[this];simp
theorem zaV (w:World) (g i:Nat) (v:Value):w.grownBy (w.setCell ⟨g,i,none⟩ v) (some g):=
 ⟨rfl,rfl,rfl,by simp,fun k _ hk=>heap_setCell_other w ⟨g,i,none⟩ k v (fun e=>hk (by simp[e]))⟩
theorem zaJ {a w:World} {row:Option Nat} (h:a.grownBy w row):a.grownBy w.drew row:=⟨h.os,h.tape,h.output,h.size,h.block⟩
def ints (k:IntKind) (l:List Int):List Value:=l.map (Value.int k)
@[simp] theorem length_ints (k:IntKind) (l:List Int):(ints k l).length=l.length:=by simp[ints]
theorem zbk (k:IntKind) (l m:List Int):ints k (l++m)=ints k l++ints k m:=by simp[ints]
theorem all_one {cs:List Value} (h: ∀v∈cs,v.oneCell'=true):cs.toArray.all (·.oneCell')=true:=all_oneCell_toArray h
section
variable {P:Program} {w:World} {ops:Array Oper} {rest:List Oper} {o:Oper} {a:Act} {Q:Exit→Act→World→Prop}
theorem zaK (hgd:o.guard=none) (d:Option Tmp) (hdst:o.dst=d) (ty:TypeId) (ho:o.op= .alloc ty) (z:List Value) (hz:(P.info? ty).map (·.zero)=some (some (.agg z.toArray)))
  (h: ∀g w',w.heap.size≤g→Blk w' g ty z→w.grownBy w' none→wpList P ops Q rest (a.put d (.pointer (some ⟨g,0,none⟩))) w'):wpList P ops Q (o::rest) a w:=by
 subst hdst
 refine wpList_plain hgd fun K hK=> ?_
 have hzero:(zeroValue ty).run P w= .ok (.agg z.toArray) w:=by
  cases hq:P.info? ty with
  |none=>simp[hq]at hz
  |some i=>
   simp[hq]at hz
   simp[zeroValue,typeInfo,hq,hz]
 unfold Oper.wp execOp
 simp only[ho,Instr.alloc,Sem.run_bind,hzero,Result.andThen_ok]
 exact hK _ _ (h w.heap.size (w.alloc (.cells z.toArray ty)) (Nat.le_refl _) (heap_alloc_new w _) (World.grownBy_alloc w _ none))
theorem zfJ (g:Nat) (t:TypeId): ∀(vs:List Value) (off:Nat) (cs:List Value) (w:World),Blk w g t cs→off+vs.length≤cs.length→
  Blk (w.setCells g off vs) g t (splice cs off vs)∧w.grownBy (w.setCells g off vs) (some g)
 |[],off,cs,w,hb,_=>by
  refine⟨?_,zae _ _⟩
  simpa[World.setCells,splice]using hb
 |v::r,off,cs,w,hb,hl=>by
  simp only[List.length_cons]at hl
  have hb1:Blk (w.setCell ⟨g,off,none⟩ v) g t (cs.set off v):=by
   have:=heap_setCell_same w g off cs.toArray t v hb
   unfold Blk
   rw[this];simp
  have hg1:w.grownBy (w.setCell ⟨g,off,none⟩ v) (some g):=⟨rfl,rfl,rfl,by simp,fun k _ hk=>heap_setCell_other w ⟨g,off,none⟩ k v (fun e=>hk (by simp[e]))⟩
  obtain⟨h1,h2⟩:=zfJ g t r (off+1) (cs.set off v) _ hb1 (by simp;omega)
  refine⟨?_,hg1.trans h2⟩
  rw[World.setCells]
  have e:splice (cs.set off v) (off+1) r=splice cs off (v::r):=by
   apply List.ext_getElem?
   intro i
   simp only[splice,List.getElem?_append,List.length_take,List.length_set,List.getElem?_take,List.getElem?_drop,List.getElem?_set,List.length_cons]
   by_cases h1:i<off
   ·simp[h1,show i<min (off+1) cs.length by omega,show i<min off cs.length by omega,show ¬off=i by omega,show i<off+1 by omega]
   ·by_cases h2:i=off
    ·subst h2
     simp[show i<min (i+1) cs.length by omega,show ¬i<min i cs.length by omega,show i-min i cs.length=0 by omega,show i<cs.length by omega]
    ·simp only[show ¬i<min (off+1) cs.length by omega,show ¬i<min off cs.length by omega,if_false]
     rw[show min (off+1) cs.length=off+1 by omega,show min off cs.length=off by omega]
     obtain⟨j,rfl⟩: ∃j,i=off+1+j:=⟨i-(off+1),by omega⟩
     rw[show off+1+j-(off+1)=j by omega,show off+1+j-off=j+1 by omega]
     simp only[Nat.add_lt_add_iff_right,List.getElem?_cons_succ]
     split
     ·rfl
     ·rw[if_neg (by omega),show off+(r.length+1)+(j+1-(r.length+1))=off+1+r.length+(j-r.length)by omega]
  rw[e]at h1
  exact h1
theorem zaQ (hgd:o.guard=none) (d:Option Tmp) (hdst:o.dst=d) (ty:TypeId) (x y:Operand) (ho:o.op= .store ty x y)
  (g off:Nat) (ds:List Value) (hx:a.eval x= .pointer (some ⟨g,off,none⟩)) (hy:a.eval y= .agg ds.toArray)
  (t:TypeId) (cs:List Value) (hb:Blk w g t cs) (hl:off+ds.length≤cs.length)
  (hi:(P.info? ty).map (·.size)=some ds.length) (h1: ∀v∈ds,v.oneCell'=true)
  (h: ∀w',Blk w' g t (splice cs off ds)→w.grownBy w' (some g)→wpList P ops Q rest (a.put d undef) w'):wpList P ops Q (o::rest) a w:=by
 subst hdst
 exact wpList_store_mid hgd ty x y ho g off ds.toArray hx hy (hb.there off _ (by simpa using hl)) (by simpa using hi) (all_one h1)
  (by have:=zfJ g t ds off cs w hb hl;exact h _ this.1 this.2)
theorem zbn (hgd:o.guard=none) (d:Option Tmp) (hdst:o.dst=d) (ty:TypeId) (x y:Operand) (ho:o.op= .store ty x y)
  (g off:Nat) (v:Value) (hx:a.eval x= .pointer (some ⟨g,off,none⟩)) (hy:a.eval y=v) (hv:v.oneCell'=true)
  (t:TypeId) (cs:List Value) (hb:Blk w g t cs) (hl:off<cs.length)
  (hi:(P.info? ty).map (·.size)=some 1)
  (h: ∀w',Blk w' g t (cs.set off v)→w.grownBy w' (some g)→wpList P ops Q rest (a.put d undef) w'):wpList P ops Q (o::rest) a w:=by
 subst hdst
 refine wpList_plain hgd fun K hK=> ?_
 have hc:w.cell? ⟨g,off,none⟩=some cs[off]:=(hb.cell off).trans (List.getElem?_eq_getElem hl)
 have hf:=hb.frozen off
 have hcv:v.cells= #[v]:=by cases v<;>first|rfl|cases hv
 have hst:(storeVar ty ⟨g,off,none⟩ v).run P w= .ok () (w.setCell ⟨g,off,none⟩ v):=by
  cases hq:P.info? ty with
  |none=>simp[hq]at hi
  |some i=>
   have hs:i.size=1:=by simpa[hq]using hi
   have hadd:(⟨g,off,none⟩:Addr).add 0=⟨g,off,none⟩:=by unfold Addr.add;split<;>simp_all
   have hst':(store ⟨g,off,none⟩ v .plain).run P w= .ok () (w.setCell ⟨g,off,none⟩ v):=by
    rw[run_store P w _ v _ hv]
    simp[hc,hf]
   simp[storeVar,sizeOf,typeInfo,hq,hcv,hs,storeCells,hadd,hst']
 unfold Oper.wp execOp
 simp only[ho,hx,hy,Instr.storeAt,Instr.sureAddr,Sem.run_bind,Sem.run_pure,Result.andThen_ok,hst]
 refine hK _ _ (h _ ?_ ⟨rfl,rfl,rfl,by simp,fun k _ hk=>heap_setCell_other w ⟨g,off,none⟩ k v (fun e=>hk (by simp[e]))⟩)
 have:=heap_setCell_same w g off cs.toArray t v hb
 unfold Blk
 rw[this];simp
end
theorem zaW {α:Type} (cs ds:List α) (h:cs.length=ds.length):splice cs 0 ds=ds:=by
 simp[splice,←h]
section
variable {P:Program} {w:World} {ops:Array Oper} {rest:List Oper} {o:Oper} {a:Act} {Q:Exit→Act→World→Prop}
end
theorem zff {P:Program} (t e:TypeId) (n:Nat) (ht:P.underlying t=some (.array n e)) (hsz:(P.info? e).map (·.size)=some 1) (g o l:Nat) (hl:l<n) (k:IntKind) (w:World):
  (Instr.sliceAt t (.pointer (some ⟨g,o,none⟩)) (some (.int k (l:Int))) none none).run P w= .ok (.slice (some ⟨g,o+l,none⟩) (n-l) (n-l)) w:=by
 have e1:P.elem t=e:=by simp[Program.elem,ht]
 have e2:P.arrayLen t=n:=by simp[Program.arrayLen,ht]
 rw[run_sliceAt_array_l w t ⟨g,o,none⟩ (by rw[e1,e2];exact ht) k l (by omega) (by rw[e2];omega),e1,e2]
 cases hq:P.info? e with
 |none=>simp[hq]at hsz
 |some inf=>
  have hs:inf.size=1:=by simpa[hq]using hsz
  simp[sizeOf,typeInfo,hq,hs,slicedAt,Addr.add_mid]
  omega
theorem zlK {P:Program} (t e:TypeId) (n:Nat) (ht:P.underlying t=some (.array n e)) (hsz:(P.info? e).map (·.size)=some 1) (g o h:Nat) (_hn:0<n) (hl:h≤n) (k:IntKind) (w:World):
  (Instr.sliceAt t (.pointer (some ⟨g,o,none⟩)) none (some (.int k (h:Int))) none).run P w= .ok (.slice (some ⟨g,o,none⟩) h n) w:=by
 have e1:P.elem t=e:=by simp[Program.elem,ht]
 have e2:P.arrayLen t=n:=by simp[Program.arrayLen,ht]
 rw[run_sliceAt_array_h w t ⟨g,o,none⟩ (by rw[e1,e2];exact ht) k h (by omega) (by rw[e2];omega),e1,e2]
 cases hq:P.info? e with
 |none=>simp[hq]at hsz
 |some inf=>
  have hs:inf.size=1:=by simpa[hq]using hsz
  simp[sizeOf,typeInfo,hq,hs,slicedAt,Addr.add_mid]
def Src (w:World) (g:Nat) (A:Option Addr) (xs:List Int):Prop:=
 0<xs.length→ ∃b o,A=some ⟨b,o,none⟩∧b≠g∧b<w.heap.size∧ ∀j v,(ints .u8 xs)[j]? =some v→w.cell? ⟨b,o+j,none⟩=some v
theorem Src.grown {w w':World} {g:Nat} {A:Option Addr} {xs:List Int} (h:Src w g A xs) {row:Option Nat} (hb:w.grownBy w' row) (hr:row=none∨row=some g):Src w' g A xs:=fun hp=>by
 obtain⟨b,o,e,hne,hlt,hc⟩:=h hp
 refine⟨b,o,e,hne,Nat.lt_of_lt_of_le hlt hb.size,fun j v hv=> ?_⟩
 rw[World.cell?_of_block (w:=w) (hb.block b hlt (by rcases hr with rfl|rfl<;>simp[hne]))]
 exact hc j v hv
theorem Src.below {w w':World} {g:Nat} {A:Option Addr} {xs:List Int} (h:Src w g A xs) (hb:Below w.heap.size w w'):Src w' g A xs:=h.grown (zad hb none) (.inl rfl)
theorem Src.blk {w:World} {g b o:Nat} {t:TypeId} {cs:List Value} (h:Blk w b t cs) (hne:b≠g) {xs:List Int} (hx: ∀j v,(ints .u8 xs)[j]? =some v→cs[o+j]? =some v):Src w g (some ⟨b,o,none⟩) xs:=
 fun _=>⟨b,o,rfl,hne,h.lt,fun j v hv=>(h.cell _).trans (hx j v hv)⟩
def Bytes (l:List Int):Prop:= ∀i,0≤l.getD i 0∧l.getD i 0≤255
theorem Bytes.mem {l:List Int} (h:Bytes l) {x:Int} (hx:x∈l):0≤x∧x≤255:=by
 obtain⟨i,hi,rfl⟩:=List.mem_iff_getElem.1 hx
 have:=h i
 simpa[hi]using this
theorem Bytes.of_mem {l:List Int} (h: ∀x∈l,0≤x∧x≤255):Bytes l:=fun i=>by
 rw[List.getD_eq_getElem?_getD]
 rcases Nat.lt_or_ge i l.length with hi|hi
 ·rw[List.getElem?_eq_getElem hi];exact h _ (List.getElem_mem hi)
 ·rw[List.getElem?_eq_none hi];decide
theorem Bytes.append {l m:List Int} (h:Bytes l) (k:Bytes m):Bytes (l++m):= .of_mem fun x hx=>by
 rcases List.mem_append.1 hx with hx|hx
 ·exact h.mem hx
 ·exact k.mem hx
theorem Bytes.take {l:List Int} (h:Bytes l) (n:Nat):Bytes (l.take n):= .of_mem fun _ hx=>h.mem (List.mem_of_mem_take hx)
theorem Bytes.drop {l:List Int} (h:Bytes l) (n:Nat):Bytes (l.drop n):= .of_mem fun _ hx=>h.mem (List.mem_of_mem_drop hx)
def Lies (w:World) (A:Option Addr) (xs:List Int):Prop:=Src w w.heap.size A xs
theorem Lies.of {w:World} {A:Option Addr} {xs:List Int} {g:Nat} (h:Src w g A xs):Lies w A xs:=fun hp=>by
 obtain⟨b,o,e,_,hlt,hc⟩:=h hp
 exact⟨b,o,e,by omega,hlt,hc⟩
theorem Lies.below {w w':World} {A:Option Addr} {xs:List Int} (h:Lies w A xs) (hb:Below w.heap.size w w'):Lies w' A xs:=Lies.of (Src.below h hb)
theorem Lies.blk {w:World} {b o:Nat} {t:TypeId} {cs:List Value} (h:Blk w b t cs) {xs:List Int} (hx: ∀j v,(ints .u8 xs)[j]? =some v→cs[o+j]? =some v):Lies w (some ⟨b,o,none⟩) xs:=
 Src.blk h (by have:=h.lt;omega) hx
theorem Lies.whole {w:World} {b:Nat} {t:TypeId} {xs:List Int} (h:Blk w b t (ints .u8 xs)):Lies w (some ⟨b,0,none⟩) xs:=Lies.blk h (by simp)
theorem Lies.lit (w:World) (C:List Int) (t:TypeId) (fr:Nat×Nat):Lies (w.alloc (.cells (ints .u8 C).toArray t fr)) (some ⟨w.heap.size,0,none⟩) C:=fun _=>
 ⟨w.heap.size,0,rfl,by simp,by simp,fun j v hv=>by
  rw[cell_of_row _ _ _ _ t fr (heap_alloc_new w _),Nat.zero_add]
  simpa using hv⟩
theorem zaf (w:World) (o:Obj):Below w.heap.size w (w.alloc o):=(Below.refl _ w).alloc (Nat.le_refl _) _
def strL (s:ByteArray):List Int:=s.data.toList.map fun b=>(b.toNat:Int)
theorem zaX (s:ByteArray):(strL s).length=s.size:=by simp[strL]
theorem zcj (s:ByteArray):Bytes (strL s):= .of_mem fun x hx=>by
 obtain⟨b,_,rfl⟩:=List.mem_map.1 hx
 have:=b.toNat_lt
 omega
theorem zcJ {a b:ByteArray} (h:strL a=strL b):a=b:=by
 have:a.data.toList=b.data.toList:=by
  refine(List.map_inj_right (f:=fun b:UInt8=>(b.toNat:Int)) ?_).1 h
  intro x y hxy
  exact UInt8.toNat_inj.1 (by omega)
 cases a;cases b
 congr 1
 exact Array.toList_inj.1 this
theorem zdo (w:World) (e:TypeId) (s:ByteArray):Below w.heap.size w (Lib.bytesWorld w e s):=
 ⟨rfl,rfl,rfl,by rw[Lib.bytesWorld_size];omega,fun k hk=>Lib.bytesWorld_at_old w e s k hk⟩
theorem zkd (w:World) (e:TypeId) (s:ByteArray):Lies (Lib.bytesWorld w e s) (some ⟨w.heap.size,0,none⟩) (strL s):=fun _=>
 ⟨w.heap.size,0,rfl,by rw[Lib.bytesWorld_size];omega,by rw[Lib.bytesWorld_size];omega,fun j v hv=>by
  have hj:j<s.size:=by
   have:=(List.getElem?_eq_some_iff.1 hv).1
   rw[length_ints,zaX]at this;exact this
  rw[Nat.zero_add,Lib.bytesWorld_cell w e s j hj,←hv]
  have hj2:j<s.data.toList.length:=by simpa using hj
  simp[ints,strL,List.getD,hj]⟩
section
variable {P:Program} {w:World} {ops:Array Oper} {rest:List Oper} {o:Oper} {a:Act} {Q:Exit→Act→World→Prop}
theorem zeY (hgd:o.guard=none) (d:Option Tmp) (hdst:o.dst=d) (src dst e:TypeId) (x:Operand) (ho:o.op= .convert src dst x) (s:ByteArray) (hx:a.eval x= .string s)
  {u:TypeDesc} (hs:P.underlying src=some u) (hd:P.underlying dst=some (.slice e)) (he:P.underlying e=some (.int .u8))
  (h: ∀A c w',Lies w' A (strL s)→s.size≤c→Below w.heap.size w w'→wpList P ops Q rest (a.put d (.slice A s.size c)) w'):wpList P ops Q (o::rest) a w:=by
 subst hdst
 refine wpList_plain hgd fun K hK=> ?_
 unfold Oper.wp execOp
 simp only[ho,hx,Sem.run_bind,Lib.run_convert_string_bytes w src dst e s hs hd he,Result.andThen_ok]
 exact hK _ _ (h _ _ _ (zkd w e s) (grownCap_ge w s.size 0 e) (zdo w e s))
end
theorem zdJ (s t:ByteArray):(s.toList==t.toList)=decide (s=t):=by
 rw[Bool.eq_iff_iff,beq_iff_eq,decide_eq_true_eq]
 constructor
 ·intro h
  rw[ByteArray.toList_eq,ByteArray.toList_eq]at h
  cases s;cases t
  congr 1
  exact Array.toList_inj.1 h
 ·rintro rfl;rfl
theorem ziW {k:IntKind} {a b:Int} (h:a=b):Ending.returned (.int k a)= .returned (.int k b):=by rw[h]
theorem zab {w:World} {a:Addr} {v:Value} (h:w.cell? a=some v):a.block<w.heap.size:=by
 rcases Nat.lt_or_ge a.block w.heap.size with h'|h'
 ·exact h'
 ·simp[World.cell?,Array.getElem?_eq_none h']at h
def toU (l:List Int):List UInt8:=l.map fun x=>UInt8.ofNat x.toNat
def toS (l:List Int):ByteArray:=⟨(toU l).toArray⟩
theorem toU_nat {x:Int} (h:0≤x∧x≤255):((UInt8.ofNat x.toNat).toNat:Int)=x:=by
 rw[UInt8.toNat_ofNat'];omega
theorem zbo {l:List Int} (h:Bytes l):strL (toS l)=l:=by
 simp only[strL,toS,toU,List.map_map]
 conv=>rhs;rw[←List.map_id l]
 refine List.map_congr_left fun x hx=> ?_
 exact toU_nat (h.mem hx)
theorem zhW (s:ByteArray):toS (strL s)=s:=zcJ (zbo (zcj s))
theorem zap (l:List Int):(toS l).size=l.length:=by
 show(toU l).toArray.size=_
 simp[toU]
theorem zgl (a b:ByteArray):strL (a++b)=strL a++strL b:=by
 simp only[strL,ByteArray.data_append,Array.toList_append,List.map_append]
theorem zcd {l m:List Int} (hl:Bytes l) (hm:Bytes m):toS l++toS m=toS (l++m):=zcJ (by rw[zgl,zbo hl,zbo hm,zbo (hl.append hm)])
theorem zau (s:ByteArray) (a b:Nat):strL (s.extract a b)=((strL s).take b).drop a:=by
 simp only[strL,ByteArray.data_extract,Array.toList_extract,List.extract_eq_take_drop,List.map_take,List.map_drop,List.drop_take]
theorem zaz (s:ByteArray) (k:Nat) (h:k<s.size):(strL s).getD k 0=(s[k].toNat:Int):=by
 have h2:k<s.data.toList.length:=by simpa using h
 rw[List.getD_eq_getElem?_getD,strL,List.getElem?_map,List.getElem?_eq_getElem h2]
 simp
 rfl
theorem eq_toS {s:ByteArray} {l:List Int} (hl:Bytes l):s=toS l↔strL s=l:=
 ⟨fun h=>by rw[h,zbo hl],fun h=>by rw[←h,zhW]⟩
theorem zcV (A:Option Addr) (xs:List Int) (n c:Nat) (w:World) (hn:xs.length=n) (hl:Lies w A xs):
  (convert 80 9 (.slice A n c)).run Tryz.prog w= .ok (.string (toS xs)) w:=by
 rw[run_convert_bytes_string w _ _ 5 _ _ _ Tryz.underlying80 Tryz.underlying5 Tryz.underlying9]
 cases A with
 |none=>
  have:xs=[]:=by
   rcases xs with _|⟨x,r⟩
   ·rfl
   ·obtain⟨b,o,h,_⟩:=hl (by simp)
    cases h
  subst this
  rfl
 |some ad=>
  have hcells: ∀j u,(ints .u8 xs)[j]? =some u→w.cell? (ad.add j)=some u:=fun j u hu=>by
   have hj:=(List.getElem?_eq_some_iff.1 hu).1
   rw[length_ints]at hj
   obtain⟨b,o,h,_,_,hc⟩:=hl (by omega)
   injection h with h
   subst h
   rw[Addr.add_mid]
   exact hc j u hu
  have hld:(loadCells ad n).run Tryz.prog w= .ok (ints .u8 xs).toArray w:=by
   have:=run_loadCells_list (P:=Tryz.prog) w ad (ints .u8 xs) hcells
   rw[length_ints,hn]at this;exact this
  rw[run_bytesToString w _ _ _ xs hld,foldl_push_bytes,show ByteArray.empty.data= #[]from rfl,Array.empty_append]
  rfl
section
variable {P:Program} {w:World} {ops:Array Oper} {rest:List Oper} {o:Oper} {a:Act} {Q:Exit→Act→World→Prop}
end
theorem Lies.take {w:World} {A:Option Addr} {xs:List Int} (h:Lies w A xs) (n:Nat):Lies w A (xs.take n):=fun hp=>by
 simp only[List.length_take]at hp
 obtain⟨b,o,e,h1,h2,hc⟩:=h (by omega)
 refine⟨b,o,e,h1,h2,fun j v hv=>hc j v ?_⟩
 have hj:=(List.getElem?_eq_some_iff.1 hv).1
 simp only[length_ints,List.length_take]at hj
 simp only[ints,List.map_take,List.getElem?_take]at hv
 rw[if_pos (by omega)]at hv
 exact hv
theorem ziq (x:Int) (k:Nat) (hk:k≤62) (h0:0≤x) (h1:x<9223372036854775808):bits .and .i64 x (2^k-1)=x%2^k:=by
 obtain⟨a,rfl⟩:=Int.eq_ofNat_of_zero_le h0
 have hk2:2^k≤2^62:=Nat.pow_le_pow_right (by decide) hk
 have hp:0<2^k:=Nat.two_pow_pos k
 have e0:((2:Int)^k-1)=((2^k-1:Nat):Int):=by rw[Int.ofNat_sub hp];simp
 have h:(BitVec.ofInt 64 (a:Int)&&& BitVec.ofInt 64 ((2^k-1:Nat):Int)).toNat=a%2^k:=by
  rw[BitVec.toNat_and,BitVec.toNat_ofInt,BitVec.toNat_ofInt]
  have e1:((a:Int)%(2^64:Nat)).toNat=a:=by omega
  have e2:(((2^k-1:Nat):Int)%(2^64:Nat)).toNat=2^k-1:=by omega
  rw[e1,e2,Nat.and_two_pow_sub_one_eq_mod]
 rw[e0]
 show IntKind.i64.wrap ((BitVec.ofInt 64 (a:Int)&&& BitVec.ofInt 64 ((2^k-1:Nat):Int)).toNat:Int)=_
 rw[h,IntKind.wrap_i64]
 have:a%2^k<2^k:=Nat.mod_lt _ hp
 have e3:((a:Int)%2^k)=((a%2^k:Nat):Int):=by simp
 rw[e3]
 omega
theorem or_i64 (x y:Nat) (hx:x<9223372036854775808) (hy:y<9223372036854775808):bits .or .i64 (x:Int) (y:Int)=((x|||y:Nat):Int):=by
 have h:(BitVec.ofInt 64 (x:Int)|||BitVec.ofInt 64 (y:Int)).toNat=x|||y:=by
  rw[BitVec.toNat_or,BitVec.toNat_ofInt,BitVec.toNat_ofInt]
  congr 1<;>omega
 have hl:x|||y<2^63:=Nat.or_lt_two_pow (by omega) (by omega)
 show IntKind.i64.wrap ((BitVec.ofInt 64 (x:Int)|||BitVec.ofInt 64 (y:Int)).toNat:Int)=_
 rw[h,IntKind.wrap_i64]
 omega
theorem zgY (hi lo:Int) (k:Nat) (h0:0≤lo) (h1:lo<2^k) (h2:0≤hi) (h3:hi*2^k+lo<9223372036854775808):bits .or .i64 (hi*2^k) lo=hi*2^k+lo:=by
 obtain⟨a,rfl⟩:=Int.eq_ofNat_of_zero_le h0
 obtain⟨b,rfl⟩:=Int.eq_ofNat_of_zero_le h2
 have hk:a<2^k:=by
  have e:((2:Int)^k)=((2^k:Nat):Int):=by simp
  rw[e]at h1
  exact Int.ofNat_lt.1 h1
 have e:((b:Int)*2^k)=((b*2^k:Nat):Int):=by simp
 have h3':b*2^k+a<9223372036854775808:=by
  rw[e,←Int.natCast_add]at h3
  exact Int.ofNat_lt.1 h3
 rw[e,or_i64 (b*2^k) a (by omega) (by omega),←Nat.shiftLeft_eq,←Nat.shiftLeft_add_eq_or_of_lt hk b,Nat.shiftLeft_eq]
 simp
def putL (n:Int):List Int:=
 if n<0∨1114111<n∨(55296≤n∧n≤57343)then[]else if n<128 then[n]else if n<2048 then[192+n/64,128+n%64]
 else if n<65536 then[224+n/4096,128+n/64%64,128+n%64]else[240+n/262144,128+n/4096%64,128+n/64%64,128+n%64]
def zbr (c:Int):Nat:=if 240≤c then 4 else if 224≤c then 3 else if 192≤c then 2 else 1
def zft (k:Nat):Int:=if k=4 then 240 else if k=3 then 224 else if k=2 then 192 else 0
def accL (c0:Int) (l:List Int):Nat→Int
 |0=>c0
 |i+1=>accL c0 l i*64+l.getD (i+1) 0%64
def zdn (l:List Int):Int:=accL (l.getD 0 0-zft (zbr (l.getD 0 0))) l (zbr (l.getD 0 0)-1)
def nxL (l:List Int):Int×Nat:=
 if l.length=0 then(-1,0)else if l.length<zbr (l.getD 0 0)then(-1,1)
 else if putL (zdn l)=l.take (zbr (l.getD 0 0))then(zdn l,zbr (l.getD 0 0))else(-1,1)
theorem zhV (c:Int):1≤zbr c∧zbr c≤4:=by unfold zbr;split<;>(try split)<;>(try split)<;>omega
theorem zfr {n:Int} (h:n<0∨1114111<n∨(55296≤n∧n≤57343)):putL n=[]:=if_pos h
theorem zfY {n:Int} (h:0≤n) (h1:n<128):putL n=[n]:=by unfold putL;rw[if_neg (by omega),if_pos h1]
theorem zjK {n:Int} (h:128≤n) (h1:n<2048):putL n=[192+n/64,128+n%64]:=by unfold putL;rw[if_neg (by omega),if_neg (by omega),if_pos h1]
theorem zeu {n:Int} (h:2048≤n) (h1:n<65536) (h2:n<55296∨57343<n):putL n=[224+n/4096,128+n/64%64,128+n%64]:=by unfold putL;rw[if_neg (by omega),if_neg (by omega),if_neg (by omega),if_pos h1]
theorem zhk {n:Int} (h:65536≤n) (h1:n≤1114111):putL n=[240+n/262144,128+n/4096%64,128+n/64%64,128+n%64]:=by unfold putL;rw[if_neg (by omega),if_neg (by omega),if_neg (by omega),if_neg (by omega)]
theorem zcu (n:Int):(putL n=[]∧(n<0∨1114111<n∨(55296≤n∧n≤57343)))∨(0≤n∧n<128∧putL n=[n])∨(128≤n∧n<2048∧putL n=[192+n/64,128+n%64])
  ∨(2048≤n∧n<65536∧(n<55296∨57343<n)∧putL n=[224+n/4096,128+n/64%64,128+n%64])∨(65536≤n∧n≤1114111∧putL n=[240+n/262144,128+n/4096%64,128+n/64%64,128+n%64]):=by
 by_cases h0:n<0∨1114111<n∨(55296≤n∧n≤57343)
 ·exact .inl ⟨zfr h0,h0⟩
 ·by_cases h1:n<128
  ·exact .inr (.inl ⟨by omega,h1,zfY (by omega) h1⟩)
  ·by_cases h2:n<2048
   ·exact .inr (.inr (.inl ⟨by omega,h2,zjK (by omega) h2⟩))
   ·by_cases h3:n<65536
    ·exact .inr (.inr (.inr (.inl ⟨by omega,h3,by omega,zeu (by omega) h3 (by omega)⟩)))
    ·exact .inr (.inr (.inr (.inr ⟨by omega,by omega,zhk (by omega) (by omega)⟩)))
theorem zcn (n:Int):(putL n).length≤4:=by
 rcases zcu n with⟨h,_⟩|⟨_,_,h⟩|⟨_,_,h⟩|⟨_,_,_,h⟩|⟨_,_,h⟩<;>rw[h]<;>simp
theorem zdh (n:Int):Bytes (putL n):= .of_mem fun x hx=>by
 rcases zcu n with⟨h,_⟩|⟨_,_,h⟩|⟨_,_,h⟩|⟨_,_,_,h⟩|⟨_,_,h⟩<;>rw[h]at hx<;>simp at hx<;>omega
theorem zkJ {n c:Int} {r:List Int} (h:putL n=c::r):zbr c=(putL n).length∧c-zft (zbr c)=c%(if zbr c=1 then 256 else if zbr c=2 then 32 else if zbr c=3 then 16 else 8):=by
 rcases zcu n with⟨h',_⟩|⟨_,_,h'⟩|⟨_,_,h'⟩|⟨_,_,_,h'⟩|⟨_,_,h'⟩<;>rw[h']at h
 ·cases h
 all_goals
  obtain⟨h1,h2⟩:=List.cons.inj h
  rw[h']
 ·have:zbr c=1:=by unfold zbr;rw[if_neg (by omega),if_neg (by omega),if_neg (by omega)]
  rw[this];refine⟨rfl,?_⟩;show c-0=c%256;omega
 ·have:zbr c=2:=by unfold zbr;rw[if_neg (by omega),if_neg (by omega),if_pos (by omega)]
  rw[this];refine⟨rfl,?_⟩;show c-192=c%32;omega
 ·have:zbr c=3:=by unfold zbr;rw[if_neg (by omega),if_pos (by omega)]
  rw[this];refine⟨rfl,?_⟩;show c-224=c%16;omega
 ·have:zbr c=4:=by unfold zbr;rw[if_pos (by omega)]
  rw[this];refine⟨rfl,?_⟩;show c-240=c%8;omega
theorem cand_put {n:Int} (h:putL n≠[]) (s:List Int):zdn (putL n++s)=n:=by
 rcases zcu n with⟨h',_⟩|⟨_,_,h'⟩|⟨_,_,h'⟩|⟨_,_,_,h'⟩|⟨_,_,h'⟩
 ·exact absurd h' h
 all_goals
  have hw:=(zkJ h').1
  rw[h']at hw
  simp only[List.length_cons,List.length_nil,Nat.zero_add,Nat.reduceAdd]at hw
  rw[h']
  simp only[zdn,List.cons_append,List.nil_append,List.getD_cons_zero,hw,zft,Nat.reduceSub,accL,List.getD_cons_succ]
  simp
  try omega
theorem nx_put {n:Int} (h:putL n≠[]) (s:List Int):nxL (putL n++s)=(n,(putL n).length):=by
 obtain⟨c,r,hc⟩:=List.exists_cons_of_ne_nil h
 have hw:=(zkJ hc).1
 have h0:(putL n++s).getD 0 0=c:=by rw[hc];rfl
 have hl:(putL n).length≠0:=by simpa using h
 unfold nxL
 rw[h0,if_neg (by rw[List.length_append];omega),if_neg (by rw[List.length_append,hw];omega),cand_put h,hw,if_pos (by simp)]
theorem zic {l:List Int} {n:Int} (h:putL n≠[]) (ht:putL n=l.take (putL n).length):nxL l=(n,(putL n).length):=by
 have:=nx_put h (l.drop (putL n).length)
 have e:putL n++l.drop (putL n).length=l:=by
  have h2:=List.take_append_drop (putL n).length l
  rw[←ht]at h2
  exact h2
 rwa [e]at this
theorem zno (l:List Int):(nxL l=(-1,0)∧l=[])∨(nxL l=(-1,1)∧l≠[])∨
  (nxL l=(zdn l,zbr (l.getD 0 0))∧zbr (l.getD 0 0)≤l.length∧putL (zdn l)=l.take (zbr (l.getD 0 0))∧(putL (zdn l)).length=zbr (l.getD 0 0)∧0≤zdn l):=by
 by_cases h0:l.length=0
 ·exact .inl ⟨by unfold nxL;rw[if_pos h0],List.eq_nil_of_length_eq_zero h0⟩
 ·have hne:l≠[]:=fun e=>h0 (by rw[e];rfl)
  by_cases h1:l.length<zbr (l.getD 0 0)
  ·exact .inr (.inl ⟨by unfold nxL;rw[if_neg h0,if_pos h1],hne⟩)
  ·by_cases h2:putL (zdn l)=l.take (zbr (l.getD 0 0))
   ·have hl:(putL (zdn l)).length=zbr (l.getD 0 0):=by rw[h2,List.length_take];omega
    refine .inr (.inr ⟨by unfold nxL;rw[if_neg h0,if_neg h1,if_pos h2],by omega,h2,hl,?_⟩)
    rcases Int.lt_or_le (zdn l) 0 with hn|hn
    ·rw[zfr (.inl hn),List.length_nil]at hl
     have:=zhV (l.getD 0 0)
     omega
    ·exact hn
   ·exact .inr (.inl ⟨by unfold nxL;rw[if_neg h0,if_neg h1,if_neg h2],hne⟩)
theorem nx_bd (l:List Int): -1≤(nxL l).1∧(nxL l).1≤1114111∧(nxL l).2≤4∧(nxL l).2≤l.length:=by
 rcases zno l with⟨h,e⟩|⟨h,e⟩|⟨h,h1,h2,h3,h4⟩
 ·rw[h];simp
 ·rw[h]
  have:l.length≠0:=fun h=>e (List.eq_nil_of_length_eq_zero h)
  refine⟨?_,?_,?_,?_⟩<;>simp<;>omega
 ·rw[h]
  have hw:=zhV (l.getD 0 0)
  refine⟨by show-1≤zdn l;omega,?_,hw.2,h1⟩
  show zdn l≤1114111
  rcases Int.lt_or_le 1114111 (zdn l)with hn|hn
  ·rw[zfr (.inr (.inl hn)),List.length_nil]at h3
   omega
  ·exact hn
theorem zcK {l:List Int} (h:(nxL l).1≠ -1):putL (nxL l).1=l.take (nxL l).2∧(putL (nxL l).1).length=(nxL l).2∧1≤(nxL l).2∧(nxL l).2≤l.length∧(nxL l).2≤4∧0≤(nxL l).1∧putL (nxL l).1≠[]:=by
 rcases zno l with⟨e,_⟩|⟨e,_⟩|⟨e,h1,h2,h3,h4⟩
 ·rw[e]at h;exact absurd rfl h
 ·rw[e]at h;exact absurd rfl h
 ·have hw:=zhV (l.getD 0 0)
  rw[e]
  refine⟨h2,h3,hw.1,h1,hw.2,h4,fun hn=> ?_⟩
  simp only at hn
  rw[hn,List.length_nil]at h3
  omega
def endL (l:List Int):Nat→Nat
 |0=>0
 |fuel+1=>if(nxL l).1= -1 then 0 else(nxL l).2+endL (l.drop (nxL l).2) fuel
theorem endL_fuel: ∀(f g:Nat) (l:List Int),l.length≤f→l.length≤g→endL l f=endL l g
 |0,0,_,_,_=>rfl
 |0,g+1,l,h,_=>by
  obtain rfl:=List.eq_nil_of_length_eq_zero (Nat.le_zero.1 h)
  rfl
 |f+1,0,l,_,h=>by
  obtain rfl:=List.eq_nil_of_length_eq_zero (Nat.le_zero.1 h)
  rfl
 |f+1,g+1,l,hf,hg=>by
  rw[endL,endL]
  split
  ·rfl
  ·rename_i h
   have:=zcK h
   rw[endL_fuel f g _ (by rw[List.length_drop];omega) (by rw[List.length_drop];omega)]
def badU (l:List Int):Nat:=endL l l.length
theorem ziZ {l:List Int} (h:(nxL l).1= -1):badU l=0:=by
 unfold badU
 cases hl:l.length with
 |zero=>rfl
 |succ k=>rw[endL,if_pos h]
theorem zhX {l:List Int} (h:(nxL l).1≠ -1):badU l=(nxL l).2+badU (l.drop (nxL l).2):=by
 have:=zcK h
 unfold badU
 cases hl:l.length with
 |zero=>omega
 |succ k=>
  rw[endL,if_neg h,endL_fuel k _ (l.drop (nxL l).2) (by rw[List.length_drop];omega) (Nat.le_refl _)]
theorem badU_le: ∀(n:Nat) (l:List Int),l.length≤n→badU l≤l.length
 |0,l,h=>by
  obtain rfl:=List.eq_nil_of_length_eq_zero (Nat.le_zero.1 h)
  exact Nat.le_refl _
 |n+1,l,hl=>by
  by_cases h:(nxL l).1= -1
  ·rw[ziZ h];omega
  ·have hf:=zcK h
   have:=badU_le n (l.drop (nxL l).2) (by rw[List.length_drop];omega)
   rw[List.length_drop]at this
   rw[zhX h];omega
theorem badU_le' (l:List Int):badU l≤l.length:=badU_le _ l (Nat.le_refl _)
theorem badU_from {l:List Int} {at_:Nat} (h:badU l=at_+badU (l.drop at_)) (hn:(nxL (l.drop at_)).1≠ -1):
  badU l=(at_+(nxL (l.drop at_)).2)+badU (l.drop (at_+(nxL (l.drop at_)).2)):=by
 rw[h,zhX hn,List.drop_drop];omega
inductive J where
 |mk (kind n:Int) (s:ByteArray) (l:List J) (k:List ByteArray)
def J.kind:J→Int| .mk k _ _ _ _=>k
def J.n:J→Int| .mk _ n _ _ _=>n
def J.s:J→ByteArray| .mk _ _ s _ _=>s
def J.l:J→List J| .mk _ _ _ l _=>l
def J.k:J→List ByteArray| .mk _ _ _ _ k=>k
def RepK (W:World) (k:List ByteArray) (v:Value):Prop:=
 ∃A c,v= .slice A k.length c∧k.length≤9223372036854775807∧(k≠[]→ ∃b o,A=some ⟨b,o,none⟩∧b<W.heap.size∧ ∀i,i<k.length→ ∃t,k[i]? =some t∧t.size≤9223372036854775807∧W.cell? ⟨b,o+i,none⟩=some (.string t))
def Five (W:World) (b o:Nat) (v:Value):Prop:=
 ∃a0 a1 a2 a3 a4,v= .agg #[a0,a1,a2,a3,a4]∧W.cell? ⟨b,o,none⟩=some a0∧W.cell? ⟨b,o+1,none⟩=some a1∧W.cell? ⟨b,o+2,none⟩=some a2∧W.cell? ⟨b,o+3,none⟩=some a3∧W.cell? ⟨b,o+4,none⟩=some a4
mutual
def RepJ (W:World):J→Value→Prop
 | .mk kind n s l k,v=> ∃vk A c,v= .agg #[.int .i64 kind,.int .i64 n,.string s,.slice A l.length c,vk]∧s.size≤9223372036854775807∧RepK W k vk∧l.length≤9223372036854775807∧
  (l≠[]→ ∃b o,A=some ⟨b,o,none⟩∧b<W.heap.size∧RepC W b o l)
def RepC (W:World) (b o:Nat):List J→Prop
 |[]=>True
 |x::r=>(∃v,RepJ W x v∧Five W b o v)∧RepC W b (o+5) r
end
theorem J.ind {P:J→Prop} (h: ∀kind n s l k,(∀x∈l,P x)→P (.mk kind n s l k)): ∀j,P j
 | .mk kind n s l k=>h kind n s l k (go l)
where go: ∀l:List J,∀x∈l,P x
 |[],x,hx=>by cases hx
 |y::r,x,hx=>by
  rcases List.mem_cons.1 hx with e|hx
  ·rw[e];exact J.ind h y
  ·exact go r x hx
theorem RepK.below {W W':World} {k:List ByteArray} {v:Value} (h:RepK W k v) (hb:Below W.heap.size W W'):RepK W' k v:=by
 obtain⟨A,c,e,hl,hc⟩:=h
 refine⟨A,c,e,hl,fun hne=> ?_⟩
 obtain⟨b,o,e1,hlt,hcs⟩:=hc hne
 refine⟨b,o,e1,Nat.lt_of_lt_of_le hlt hb.size,fun i hi=> ?_⟩
 obtain⟨t,h1,h2,h3⟩:=hcs i hi
 exact⟨t,h1,h2,(hb.cell (p:=⟨b,o+i,none⟩) hlt).trans h3⟩
theorem Five.below {W W':World} {b o:Nat} {v:Value} (h:Five W b o v) (hlt:b<W.heap.size) (hb:Below W.heap.size W W'):Five W' b o v:=by
 obtain⟨a0,a1,a2,a3,a4,e,h0,h1,h2,h3,h4⟩:=h
 exact⟨a0,a1,a2,a3,a4,e,(hb.cell (p:=⟨b,o,none⟩) hlt).trans h0,(hb.cell (p:=⟨b,o+1,none⟩) hlt).trans h1,(hb.cell (p:=⟨b,o+2,none⟩) hlt).trans h2,(hb.cell (p:=⟨b,o+3,none⟩) hlt).trans h3,(hb.cell (p:=⟨b,o+4,none⟩) hlt).trans h4⟩
theorem RepJ.below {W W':World} (hb:Below W.heap.size W W'): ∀(j:J) (v:Value),RepJ W j v→RepJ W' j v:=fun j=>by
 induction j using J.ind with
 |h kind n s l k ih=>
  intro v h
  rw[RepJ]at h⊢
  obtain⟨vk,A,c,e,hs,hk,hl,hc⟩:=h
  refine⟨vk,A,c,e,hs,hk.below hb,hl,fun hne=> ?_⟩
  obtain⟨b,o,e1,hlt,hcs⟩:=hc hne
  refine⟨b,o,e1,Nat.lt_of_lt_of_le hlt hb.size,?_⟩
  have key: ∀(l:List J) (o:Nat),(∀x∈l,∀v,RepJ W x v→RepJ W' x v)→RepC W b o l→RepC W' b o l:=fun l=>by
   induction l with
   |nil=>intro o _ _;rw[RepC];trivial
   |cons x r ihr=>
    intro o ih h
    rw[RepC]at h⊢
    obtain⟨⟨v,h1,h2⟩,h3⟩:=h
    exact⟨⟨v,ih x (by simp) v h1,h2.below hlt hb⟩,ihr (o+5) (fun y hy=>ih y (List.mem_cons_of_mem _ hy)) h3⟩
  exact key l o ih hcs
theorem RepC.at {W:World} {b:Nat}: ∀{l:List J} {o:Nat},RepC W b o l→ ∀i (hi:i<l.length),∃v,RepJ W l[i] v∧Five W b (o+i*5) v
 |x::r,o,h,0,_=>by rw[RepC]at h;rw[Nat.zero_mul];exact h.1
 |x::r,o,h,i+1,hi=>by
  rw[RepC]at h
  have:=h.2.at i (by simpa using hi)
  rw[show o+5+i*5=o+(i+1)*5 by omega]at this
  exact this
theorem zje: ∀x y z:List UInt8,Op.bytesLess x y=true→Op.bytesLess y z=true→Op.bytesLess x z=true
 |x,[],z,h,_=>by cases x<;>simp[Op.bytesLess]at h
 |x,b::y,[],_,h=>by simp[Op.bytesLess]at h
 |[],b::y,c::z,_,_=>rfl
 |a::x,b::y,c::z,h1,h2=>by
  simp only[Op.bytesLess,Bool.or_eq_true,decide_eq_true_eq,Bool.and_eq_true,beq_iff_eq]at h1 h2⊢
  rcases h1 with h1|⟨rfl,h1⟩
  ·rcases h2 with h2|⟨rfl,h2⟩
   ·exact .inl (UInt8.lt_trans h1 h2)
   ·exact .inl h1
  ·rcases h2 with h2|⟨rfl,h2⟩
   ·exact .inl h2
   ·exact .inr ⟨rfl,zje x y z h1 h2⟩
theorem zkt: ∀l:List UInt8,Op.bytesLess l l=false
 |[]=>rfl
 |a::l=>by simp[Op.bytesLess,zkt l]
theorem ziQ: ∀x y:List UInt8,Op.bytesLess x y=false→Op.bytesLess y x=false→x=y
 |[],[],_,_=>rfl
 |[],b::y,h1,_=>by simp[Op.bytesLess]at h1
 |a::x,[],_,h2=>by simp[Op.bytesLess]at h2
 |a::x,b::y,h1,h2=>by
  have n1: ¬a<b:=fun e=>by simp[Op.bytesLess,e]at h1
  have n2: ¬b<a:=fun e=>by simp[Op.bytesLess,e]at h2
  have e:a=b:=UInt8.le_antisymm (UInt8.not_lt.1 n2) (UInt8.not_lt.1 n1)
  subst e
  rw[ziQ x y (by simpa[Op.bytesLess]using h1) (by simpa[Op.bytesLess]using h2)]
theorem bl_asymm {x y:List UInt8} (h:Op.bytesLess x y=true):Op.bytesLess y x=false:=by
 cases h2:Op.bytesLess y x with
 |false=>rfl
 |true=>have:=zje x y x h h2;rw[zkt]at this;cases this
theorem bl_eq: ∀x y:List UInt8,Op.bytesLess x y=decide (x<y)
 |[],[]=>by simp[Op.bytesLess]
 |_::_,[]=>by simp[Op.bytesLess]
 |[],_::_=>by simp[Op.bytesLess]
 |a::x,b::y=>by
  rw[Op.bytesLess,bl_eq x y]
  simp only[List.cons_lt_cons_iff]
  by_cases h1:a<b<;>by_cases h2:a=b<;>by_cases h3:x<y<;>simp[h1,h2,h3]
theorem toList_inj {a b:ByteArray} (h:a.toList=b.toList):a=b:=by
 rw[ByteArray.toList_eq,ByteArray.toList_eq]at h
 cases a;cases b
 congr 1
 exact Array.toList_inj.1 h
def ltS (a b:ByteArray):Bool:=Op.bytesLess a.toList b.toList
theorem ltS_self (a:ByteArray):ltS a a=false:=zkt _
theorem ltS_trans {a b c:ByteArray} (h:ltS a b=true) (h2:ltS b c=true):ltS a c=true:=zje _ _ _ h h2
theorem ltS_total {a b:ByteArray} (h:a≠b) (h1:ltS a b=false):ltS b a=true:=by
 cases h2:ltS b a with
 |true=>rfl
 |false=>exact absurd (toList_inj (ziQ _ _ h1 h2)) h
theorem ltS_asymm {a b:ByteArray} (h:ltS a b=true):ltS b a=false:=bl_asymm h
theorem ltS_ne {a b:ByteArray} (h:ltS a b=true):a≠b:=fun e=>by rw[e,ltS_self]at h;cases h
def zfz (l:List ByteArray):Prop:=l.Pairwise fun a b=>ltS a b=true
theorem rise_nil:zfz []:=List.Pairwise.nil
theorem rise_cons {x:ByteArray} {l:List ByteArray}:zfz (x::l)↔(∀y∈l,ltS x y=true)∧zfz l:=List.pairwise_cons
theorem rise_ext: ∀{a b:List ByteArray},zfz a→zfz b→(∀x,x∈a↔x∈b)→a=b
 |[],[],_,_,_=>rfl
 |[],y::b,_,_,h=>absurd ((h y).2 List.mem_cons_self) (by simp)
 |x::a,[],_,_,h=>absurd ((h x).1 List.mem_cons_self) (by simp)
 |x::a,y::b,ha,hb,h=>by
  obtain⟨ha1,ha2⟩:=rise_cons.1 ha
  obtain⟨hb1,hb2⟩:=rise_cons.1 hb
  have hxy:x=y:=by
   rcases List.mem_cons.1 ((h x).1 List.mem_cons_self)with e|hx
   ·exact e
   ·rcases List.mem_cons.1 ((h y).2 List.mem_cons_self)with e|hy
    ·exact e.symm
    ·have h1:=ltS_asymm (hb1 x hx)
     rw[ha1 y hy]at h1;cases h1
  subst hxy
  rw[rise_ext ha2 hb2 fun z=>⟨fun hz=> ?_,fun hz=> ?_⟩]
  ·rcases List.mem_cons.1 ((h z).1 (List.mem_cons_of_mem _ hz))with e|k
   ·exact absurd e.symm (ltS_ne (ha1 z hz))
   ·exact k
  ·rcases List.mem_cons.1 ((h z).2 (List.mem_cons_of_mem _ hz))with e|k
   ·exact absurd e.symm (ltS_ne (hb1 z hz))
   ·exact k
def insG (x:ByteArray):Bool→List ByteArray→List ByteArray
 |d,[]=>if d then[]else[x]
 |d,y::r=>(if d=false∧ltS x y=true then[x]else[])++y::insG x (d||ltS x y) r
theorem insG_true (x:ByteArray): ∀l,insG x true l=l
 |[]=>rfl
 |y::r=>by simp[insG,insG_true x r]
theorem zki (x y:ByteArray) (r:List ByteArray):insG x false (y::r)=if ltS x y=true then x::y::r else y::insG x false r:=by
 rw[insG]
 cases h:ltS x y<;>simp[insG_true]
theorem zjY (x:ByteArray): ∀(l:List ByteArray) (z:ByteArray),z∈insG x false l↔z=x∨z∈l
 |[],z=>by simp[insG]
 |y::r,z=>by
  rw[zki]
  split
  ·simp
  ·rw[List.mem_cons,zjY x r z,List.mem_cons]
   constructor<;>(rintro(h|h|h)<;>simp[h])
theorem zgw (x:ByteArray): ∀l:List ByteArray,(insG x false l).length=l.length+1
 |[]=>rfl
 |y::r=>by
  rw[zki]
  split
  ·rfl
  ·simp[zgw x r]
theorem rise_insG (x:ByteArray): ∀l:List ByteArray,zfz l→x ∉ l→zfz (insG x false l)
 |[],_,_=>by simp[insG,zfz]
 |y::r,h,hx=>by
  obtain⟨h1,h2⟩:=rise_cons.1 h
  rw[zki]
  split
  ·rename_i hl
   refine rise_cons.2 ⟨fun z hz=> ?_,h⟩
   rcases List.mem_cons.1 hz with rfl|hz
   ·exact hl
   ·exact ltS_trans hl (h1 z hz)
  ·rename_i hl
   have hyx:ltS y x=true:=ltS_total (fun e=>hx (by simp[e])) (by simpa using hl)
   refine rise_cons.2 ⟨fun z hz=> ?_,rise_insG x r h2 (fun k=>hx (List.mem_cons_of_mem _ k))⟩
   rcases(zjY x r z).1 hz with rfl|hz
   ·exact hyx
   ·exact h1 z hz
def hasN (l:List ByteArray) (x:ByteArray):Bool:=l.any fun y=>y.toList==x.toList
theorem hasN_iff {l:List ByteArray} {x:ByteArray}:hasN l x=true↔x∈l:=by
 unfold hasN
 rw[List.any_eq_true]
 constructor
 ·rintro⟨y,hy,e⟩
  rw[beq_iff_eq]at e
  rwa [←toList_inj e]
 ·exact fun h=>⟨x,h,by simp⟩
def putS (l:List ByteArray) (x:ByteArray):List ByteArray:=if hasN l x=true then l else insG x false l
theorem mem_putS {l:List ByteArray} {x z:ByteArray}:z∈putS l x↔z∈l∨z=x:=by
 unfold putS
 split
 ·rename_i h
  constructor
  ·exact .inl
  ·rintro(h1|rfl)
   ·exact h1
   ·exact hasN_iff.1 h
 ·rw[zjY];exact Or.comm
theorem rise_putS {l:List ByteArray} {x:ByteArray} (h:zfz l):zfz (putS l x):=by
 unfold putS
 split
 ·exact h
 ·rename_i hx
  exact rise_insG x l h (fun k=>hx (hasN_iff.2 k))
theorem zgv (l:List ByteArray) (x:ByteArray):(putS l x).length=if hasN l x=true then l.length else l.length+1:=by
 unfold putS
 split
 ·rfl
 ·exact zgw x l
def setS (l:List ByteArray):List ByteArray:=l.foldl putS []
theorem zhc (l:List ByteArray) (x:ByteArray):setS (l++[x])=putS (setS l) x:=by simp[setS,List.foldl_append]
theorem zlp: ∀(l o:List ByteArray),zfz o→zfz (l.foldl putS o)
 |[],_,h=>h
 |x::r,o,h=>zlp r _ (rise_putS h)
theorem mem_foldl: ∀(l o:List ByteArray) (z:ByteArray),z∈l.foldl putS o↔z∈o∨z∈l
 |[],_,_=>by simp
 |x::r,o,z=>by
  rw[List.foldl_cons,mem_foldl r,mem_putS,List.mem_cons,or_assoc]
theorem rise_setS (l:List ByteArray):zfz (setS l):=zlp l [] rise_nil
theorem mem_setS {l:List ByteArray} {z:ByteArray}:z∈setS l↔z∈l:=by simp[setS,mem_foldl]
theorem setS_eq {r l:List ByteArray} (h:zfz r) (hm: ∀x,x∈r↔x∈l):r=setS l:=rise_ext h (rise_setS l) fun x=>by rw[hm,mem_setS]
theorem setS_congr {l m:List ByteArray} (h: ∀x,x∈l↔x∈m):setS l=setS m:=setS_eq (rise_setS l) fun x=>by rw[mem_setS,h]
theorem zfv: ∀l o:List ByteArray,o.length≤(l.foldl putS o).length
 |[],_=>Nat.le_refl _
 |x::r,o=>by
  refine Nat.le_trans ?_ (zfv r _)
  rw[zgv];split<;>omega
theorem zdp: ∀l o:List ByteArray,(l.foldl putS o).length≤o.length+l.length
 |[],_=>Nat.le_refl _
 |x::r,o=>by
  have h:=zdp r (putS o x)
  rw[zgv]at h
  rw[List.foldl_cons,List.length_cons]
  split at h<;>omega
theorem setS_mono (a b:List ByteArray):(setS a).length≤(setS (a++b)).length:=by
 rw[setS,setS,List.foldl_append];exact zfv b _
def SortB (l:List (List UInt8)):Prop:=l.Pairwise fun a b=>Op.bytesLess b a=false
theorem bl_le {a b c:List UInt8} (h1:Op.bytesLess b a=false) (h2:Op.bytesLess b c=true):Op.bytesLess a c=true:=by
 cases h:Op.bytesLess a b with
 |true=>exact zje _ _ _ h h2
 |false=>rw[ziQ a b h h1];exact h2
theorem zfh (zs:List (List UInt8)) (hs:SortB zs): ∀m,m≤zs.length→
  (Lib.compactUpTo zs.toArray m).Pairwise (fun a b=>Op.bytesLess a b=true)∧ ∀x,x∈Lib.compactUpTo zs.toArray m↔ ∃j,j<m∧zs[j]? =some x
 |0,_=>by simp[Lib.compactUpTo]
 |m+1,hm=>by
  obtain⟨h1,h2⟩:=zfh zs hs m (by omega)
  have hget: ∀j,j<zs.length→zs.toArray[j]! =zs[j]! :=fun j hj=>by simp
  have hat: ∀j (hj:j<zs.length),zs[j]! =zs[j]:=fun j hj=>by simp[hj]
  have hle: ∀i j (hi:i<zs.length) (hj:j<zs.length),i<j→Op.bytesLess zs[j] zs[i]=false:=fun i j hi hj hij=>List.pairwise_iff_getElem.1 hs i j hi hj hij
  rw[Lib.compactUpTo_succ]
  cases hk:Lib.keeps zs.toArray m with
  |false=>
   rw[if_neg (by simp),List.append_nil]
   refine⟨h1,fun x=>⟨fun h=> ?_,?_⟩⟩
   ·obtain⟨j,hj,e⟩:=(h2 x).1 h
    exact⟨j,by omega,e⟩
   ·rintro⟨j,hj,e⟩
    rcases Nat.lt_or_ge j m with hjm|hjm
    ·exact(h2 x).2 ⟨j,hjm,e⟩
    ·have:j=m:=by omega
     subst this
     unfold Lib.keeps at hk
     simp only[decide_eq_false_iff_not,not_or,ne_eq,Decidable.not_not]at hk
     obtain⟨h0,he⟩:=hk
     rw[hget _ (by omega),hget _ (by omega),hat _ (by omega),hat _ (by omega)]at he
     refine(h2 x).2 ⟨j-1,by omega,?_⟩
     rw[List.getElem?_eq_getElem (by omega)]at e⊢
     rw[←e,he]
  |true=>
   rw[if_pos rfl,hget m (by omega),hat m (by omega)]
   have hnew: ∀x∈Lib.compactUpTo zs.toArray m,Op.bytesLess x zs[m]=true:=by
    intro x hx
    obtain⟨j,hj,e⟩:=(h2 x).1 hx
    obtain⟨hjl,rfl⟩:=List.getElem?_eq_some_iff.1 e
    unfold Lib.keeps at hk
    simp only[decide_eq_true_eq]at hk
    rcases hk with h0|hne
    ·omega
    ·rw[hget _ (by omega),hget _ (by omega),hat _ (by omega),hat _ (by omega)]at hne
     have hlast:Op.bytesLess zs[m-1] zs[m]=true:=by
      cases h:Op.bytesLess zs[m-1] zs[m]with
      |true=>rfl
      |false=>exact absurd (ziQ _ _ (hle (m-1) m (by omega) (by omega) (by omega)) h) hne
     rcases Nat.lt_or_ge j (m-1)with hj1|hj1
     ·exact bl_le (hle j (m-1) hjl (by omega) hj1) hlast
     ·have:j=m-1:=by omega
      subst this
      exact hlast
   refine⟨List.pairwise_append.2 ⟨h1,by simp,fun a ha b hb=> ?_⟩,fun x=> ?_⟩
   ·rw[List.mem_singleton]at hb;subst hb
    exact hnew a ha
   ·rw[List.mem_append,h2,List.mem_singleton]
    constructor
    ·rintro(⟨j,hj,e⟩|rfl)
     ·exact⟨j,by omega,e⟩
     ·exact⟨m,by omega,List.getElem?_eq_getElem (by omega)⟩
    ·rintro⟨j,hj,e⟩
     rcases Nat.lt_or_ge j m with hjm|hjm
     ·exact .inl ⟨j,hjm,e⟩
     ·have:j=m:=by omega
      subst this
      rw[List.getElem?_eq_getElem (by omega)]at e
      exact .inr (Option.some.inj e).symm
theorem compact_rise (zs:List (List UInt8)) (hs:SortB zs):(Lib.compact zs).Pairwise (fun a b=>Op.bytesLess a b=true)∧ ∀x,x∈Lib.compact zs↔x∈zs:=by
 obtain⟨h1,h2⟩:=zfh zs hs zs.length (Nat.le_refl _)
 refine⟨h1,fun x=>(h2 x).trans ?_⟩
 rw[List.mem_iff_getElem?]
 exact⟨fun⟨j,_,e⟩=>⟨j,e⟩,fun⟨j,e⟩=>⟨j,(List.getElem?_eq_some_iff.1 e).1,e⟩⟩
theorem sort_rise (l:List (List UInt8)):SortB (l.mergeSort fun x y=>decide (x≤y))∧(l.mergeSort fun x y=>decide (x≤y)).Perm l:=by
 refine⟨?_,List.mergeSort_perm _ _⟩
 have h:=List.pairwise_mergeSort (le:=fun x y:List UInt8=>decide (x≤y)) (fun a b c h1 h2=>by simp at h1 h2⊢;exact List.le_trans h1 h2) (fun a b=>by simpa using List.le_total a b) l
 refine h.imp fun {a b} hab=> ?_
 have hab':a≤b:=of_decide_eq_true hab
 rw[bl_eq]
 exact decide_eq_false (List.not_lt.2 hab')
def nmL (s:ByteArray):List UInt8:=s.data.toList
theorem zga (s:ByteArray):s.toList=nmL s:=ByteArray.toList_eq ..
def ofL (l:List UInt8):ByteArray:=⟨l.toArray⟩
theorem ofL_nmL (s:ByteArray):ofL (nmL s)=s:=by cases s;rfl
theorem nmL_ofL (l:List UInt8):nmL (ofL l)=l:=by simp[nmL,ofL]
theorem zll (l:List ByteArray):(Lib.compact ((l.map nmL).mergeSort fun x y=>decide (x≤y))).map ofL=setS l:=by
 obtain⟨h1,h2⟩:=sort_rise (l.map nmL)
 obtain⟨h3,h4⟩:=compact_rise _ h1
 refine setS_eq ?_ fun x=> ?_
 ·unfold zfz
  rw[List.pairwise_map]
  refine h3.imp fun {a b} h=> ?_
  unfold ltS
  rw[zga,zga,nmL_ofL,nmL_ofL];exact h
 ·rw[List.mem_map]
  constructor
  ·rintro⟨a,ha,rfl⟩
   obtain⟨y,hy,rfl⟩:=List.mem_map.1 (h2.mem_iff.1 ((h4 a).1 ha))
   rw[ofL_nmL];exact hy
  ·intro hx
   exact⟨nmL x,(h4 _).2 (h2.mem_iff.2 (List.mem_map.2 ⟨x,hx,rfl⟩)),ofL_nmL x⟩
def LiesN (w:World) (A:Option Addr) (ns:List ByteArray):Prop:=ns≠[]→ ∃b o,A=some ⟨b,o,none⟩∧b<w.heap.size∧ ∀i x,ns[i]? =some x→w.cell? ⟨b,o+i,none⟩=some (.string x)
theorem LiesN.none (w:World) (A:Option Addr):LiesN w A []:=fun h=>absurd rfl h
theorem LiesN.below {w w':World} {A:Option Addr} {ns:List ByteArray} (h:LiesN w A ns) (hb:Below w.heap.size w w'):LiesN w' A ns:=fun hp=>by
 obtain⟨b,o,e,hlt,hc⟩:=h hp
 exact⟨b,o,e,Nat.lt_of_lt_of_le hlt hb.size,fun i x hi=>(hb.cell (p:=⟨b,o+i,Option.none⟩) hlt).trans (hc i x hi)⟩
theorem LiesN.at {w:World} {A:Option Addr} {ns:List ByteArray} (h:LiesN w A ns) {i:Nat} (hi:i<ns.length): ∃b o,A=some ⟨b,o,Option.none⟩∧b<w.heap.size∧w.cell? ⟨b,o+i,Option.none⟩=some (.string ns[i]):=by
 obtain⟨b,o,e,hlt,hc⟩:=h (by intro h0;rw[h0]at hi;exact absurd hi (by simp))
 exact⟨b,o,e,hlt,hc i _ (List.getElem?_eq_getElem hi)⟩
def NmOk (ns:List ByteArray):Prop:= ∀x∈ns,x.size≤1000000000
theorem NmOk.nil:NmOk []:=fun _ h=>by cases h
theorem NmOk.sub {a b:List ByteArray} (h:NmOk b) (hs: ∀x∈a,x∈b):NmOk a:=fun x hx=>h x (hs x hx)
def SliceN (w:World) (v:Value) (ns:List ByteArray):Prop:= ∃A c,v= .slice A ns.length c∧ns.length≤c∧LiesN w A ns∧NmOk ns
theorem SliceN.below {w w':World} {v:Value} {ns:List ByteArray} (h:SliceN w v ns) (hb:Below w.heap.size w w'):SliceN w' v ns:=by
 obtain⟨A,c,e,hc,hl,ho⟩:=h
 exact⟨A,c,e,hc,hl.below hb,ho⟩
theorem SliceN.ok {w:World} {v:Value} {ns:List ByteArray} (h:SliceN w v ns):NmOk ns:=by
 obtain⟨A,c,e,hc,hl,ho⟩:=h;exact ho
theorem SliceN.nil (w:World):SliceN w (.slice none 0 0) []:=⟨none,0,rfl,Nat.le_refl _,.none _ _,.nil⟩
def strV (ns:List ByteArray):List Value:=ns.map Value.string
theorem zcW (a b:List ByteArray):strV (a++b)=strV a++strV b:=by simp[strV]
theorem strV_enc (ns:List ByteArray):strV ns=(ns.map nmL).map encStr:=by
 unfold strV nmL
 rw[Lib.map_encStr]
def LiesLs (w:World) (lb:Nat) (ls:List (Value×List ByteArray)):Prop:= ∀i v ns,ls[i]? =some (v,ns)→w.cell? ⟨lb,i,none⟩=some v∧SliceN w v ns
def zfk (ls:List (Value×List ByteArray)):List ByteArray:=ls.flatMap (·.2)
theorem zme {ls:List (Value×List ByteArray)} {k:Nat} {v:Value} {ns:List ByteArray} (h:ls[k]? =some (v,ns)):zfk (ls.take (k+1))=zfk (ls.take k)++ns:=by
 obtain⟨hk,e⟩:=List.getElem?_eq_some_iff.1 h
 rw[List.take_succ_eq_append_getElem hk,e]
 simp[zfk]
theorem flatN_le {ls:List (Value×List ByteArray)} {k:Nat} {v:Value} {ns:List ByteArray} (h:ls[k]? =some (v,ns)):(zfk (ls.take k)).length+ns.length≤(zfk ls).length:=by
 have e:=zme h
 have h2:zfk ls=zfk (ls.take (k+1))++zfk (ls.drop (k+1)):=by
  unfold zfk
  rw[←List.flatMap_append,List.take_append_drop]
 rw[h2,e]
 simp
theorem rgS:(∀(a:Act) (k:Nat) (v:Value),a.put (some k) v={a with tmps:=a.tmps.setIfInBounds k v})∧(∀(a:Act) (v:Value),a.put none v=a)∧(∀(l:List Value) (i:Nat) (v:Value),l.toArray.setIfInBounds i v=(l.set i v).toArray)∧(∀(x v:Value) (l:List Value),(x::l).set 0 v=v::l)∧(∀(x v:Value) (l:List Value) (i:Nat),(x::l).set (i+1) v=x::l.set i v)∧
  (∀(l:List Oper) (i:Nat) (h:i<l.toArray.size),l.toArray[i]=l[i]'(by simpa using h))∧(∀(l:List Oper) (a:Oper) (i:Nat) (h:i+1<(a::l).length),(a::l)[i+1]=l[i]'(by simpa using h))∧(∀(l:List Oper) (a:Oper) (h:0<(a::l).length),(a::l)[0]=a):=
 ⟨fun _ _ _=>rfl,fun _ _=>rfl,fun _ _ _=>by simp,fun _ _ _=>rfl,fun _ _ _ _=>rfl,fun _ _ _=>by simp,fun _ _ _ _=>rfl,fun _ _ _=>rfl⟩
section
variable {P:Program} {ops:Array Oper} {Q:Exit→Act→World→Prop} {md:Region.Mode} {S:World→Prop} {fuel:Nat} {listed:Array Bool} {a:Act} {w:World}
theorem rgT (i:Nat) {v:Value} {oi:Oper} (h:wpAnyH P md ops Q S fuel (listed.setIfInBounds i true) (a.put oi.dst v) w) (hi:ops[i]? =some oi:=by rfl) (hs:Region.noSelect ops=true:=by kernel_rfl) (hf:Region.free md ops listed i=true:=by kernel_rfl) (hr:(Region.ready md ops listed).contains i=true:=by kernel_rfl)
  (hQ: ∀c a w,Q (.panic c) (a.put oi.dst v) w→Q (.panic c) a w:=by exact fun _ _ _ h=>h) (hw:Region.wanted oi (yielded ops a.tmps)=true:=by rfl) (hy: ∀w,S w→(execOp a.eval oi).run P w= .ok (.value v) w:=by(intro w hSw;first|(go_simp;done)|(go_simp;with_reducible rfl))) (hS:S w:=by assumption):
  wpAnyH P md ops Q S (fuel+1) listed a w:=
 wpAnyH_take hi hs hf hr hQ (Or.inl ⟨hw,hy⟩) hS h
theorem rgO (i:Nat) {o:Oper} (h: ∀K':Act→World→Prop,Shut (∀a w,S w→(S w→wpAnyH P md ops Q S fuel (listed.setIfInBounds i true) a w)→K' a w)→if Region.wanted o (yielded ops a.tmps)=true then Oper.wp P o a w K' Q else K' (a.put o.dst undef) w)
  (hr:Region.ready md ops listed=[i]:=by kernel_rfl) (hi:ops[i]? =some o:=by rfl):wpAnyH P md ops Q S (fuel+1) listed a w:=
 wpAnyH_ready hr (by simp) (AllReadyH.cons hi h AllReadyH.nil)
end
section
variable {P:Program} {w:World} {o:Oper} {a:Act} {K:Act→World→Prop} {Q:Exit→Act→World→Prop}
theorem zbm (ty:TypeId) (z:List Value) (ho:o.op= .alloc ty) (hz:(P.info? ty).map (·.zero)=some (some (.agg z.toArray)))
  (h: ∀g w',w.heap.size≤g→Blk w' g ty z→w.grownBy w' none→K (a.put o.dst (.pointer (some ⟨g,0,none⟩))) w'):o.wp P a w K Q:=by
 have hzero:(zeroValue ty).run P w= .ok (.agg z.toArray) w:=by
  cases hq:P.info? ty with
  |none=>simp[hq]at hz
  |some i=>
   simp[hq]at hz
   simp[zeroValue,typeInfo,hq,hz]
 unfold Oper.wp execOp
 simp only[ho,Instr.alloc,Sem.run_bind,hzero,Result.andThen_ok]
 exact h w.heap.size (w.alloc (.cells z.toArray ty)) (Nat.le_refl _) (heap_alloc_new w _) (World.grownBy_alloc w _ none)
theorem wp_store_row (ty:TypeId) (x y:Operand) (ho:o.op= .store ty x y) (g off:Nat) (ds:List Value) (hx:a.eval x= .pointer (some ⟨g,off,none⟩)) (hy:a.eval y= .agg ds.toArray)
  (t:TypeId) (cs:List Value) (hb:Blk w g t cs) (hl:off+ds.length≤cs.length) (hi:(P.info? ty).map (·.size)=some ds.length) (h1: ∀v∈ds,v.oneCell'=true)
  (h: ∀w',Blk w' g t (splice cs off ds)→w.grownBy w' (some g)→K (a.put o.dst undef) w'):o.wp P a w K Q:=
 wp_store_mid ty x y ho g off ds.toArray hx hy (hb.there off _ (by simpa using hl)) (by simpa using hi) (all_one h1)
  (by have:=zfJ g t ds off cs w hb hl;exact h _ this.1 this.2)
theorem zfl (ty:TypeId) (x y:Operand) (ho:o.op= .store ty x y) (g off:Nat) (v:Value) (hx:a.eval x= .pointer (some ⟨g,off,none⟩)) (hy:a.eval y=v) (hv:v.oneCell'=true)
  (t:TypeId) (cs:List Value) (hb:Blk w g t cs) (hl:off<cs.length) (hi:(P.info? ty).map (·.size)=some 1)
  (h: ∀w',Blk w' g t (cs.set off v)→w.grownBy w' (some g)→K (a.put o.dst undef) w'):o.wp P a w K Q:=by
 have hc:w.cell? ⟨g,off,none⟩=some cs[off]:=(hb.cell off).trans (List.getElem?_eq_getElem hl)
 have hf:=hb.frozen off
 have hcv:v.cells= #[v]:=by cases v<;>first|rfl|cases hv
 have hst:(storeVar ty ⟨g,off,none⟩ v).run P w= .ok () (w.setCell ⟨g,off,none⟩ v):=by
  cases hq:P.info? ty with
  |none=>simp[hq]at hi
  |some i=>
   have hs:i.size=1:=by simpa[hq]using hi
   have hadd:(⟨g,off,none⟩:Addr).add 0=⟨g,off,none⟩:=by unfold Addr.add;split<;>simp_all
   have hst':(store ⟨g,off,none⟩ v .plain).run P w= .ok () (w.setCell ⟨g,off,none⟩ v):=by
    rw[run_store P w _ v _ hv]
    simp[hc,hf]
   simp[storeVar,sizeOf,typeInfo,hq,hcv,hs,storeCells,hadd,hst']
 unfold Oper.wp execOp
 simp only[ho,hx,hy,Instr.storeAt,Instr.sureAddr,Sem.run_bind,Sem.run_pure,Result.andThen_ok,hst]
 refine h _ ?_ ⟨rfl,rfl,rfl,by simp,fun k _ hk=>heap_setCell_other w ⟨g,off,none⟩ k v (fun e=>hk (by simp[e]))⟩
 have:=heap_setCell_same w g off cs.toArray t v hb
 unfold Blk
 rw[this];simp
end
def isD (c:Int):Bool:=decide (48≤c∧c≤57)
theorem isD_iff {c:Int}:isD c=true↔48≤c∧c≤57:=by unfold isD;rw[decide_eq_true_eq]
def digL (n:Nat):List Int:=if h:n<10 then[48+(n:Int)]else digL (n/10)++[48+((n%10:Nat):Int)]
termination_by n
decreasing_by omega
theorem zfc {n:Nat} (h:n<10):digL n=[48+(n:Int)]:=by rw[digL,dif_pos h]
theorem zfx {n:Nat} (h: ¬n<10):digL n=digL (n/10)++[48+((n%10:Nat):Int)]:=by rw[digL,dif_neg h]
theorem zhw: ∀(k n:Nat),n<10^(k+1)→(digL n).length≤k+1
 |0,n,h=>by rw[zfc (by simpa using h)];simp
 |k+1,n,h=>by
  by_cases h':n<10
  ·rw[zfc h'];simp
  ·rw[zfx h',List.length_append]
   have:=zhw k (n/10) (by rw[Nat.pow_succ]at h;omega)
   simp;omega
def valL:List Int→Nat
 |[]=>0
 |l=>l.foldl (fun a c=>a*10+(c-48).toNat) 0
theorem zgk (l:List Int):valL l=l.foldl (fun a c=>a*10+(c-48).toNat) 0:=by cases l<;>rfl
theorem zeo (l:List Int) (c:Int):valL (l++[c])=valL l*10+(c-48).toNat:=by
 rw[zgk,zgk,List.foldl_append];rfl
theorem snocInd {P:List Int→Prop} (h0:P []) (h1: ∀l c,P l→P (l++[c])) (l:List Int):P l:=by
 rw[←List.reverse_reverse l]
 induction l.reverse with
 |nil=>exact h0
 |cons c r ih=>rw[List.reverse_cons];exact h1 _ _ ih
def runL:List Int→Nat
 |[]=>0
 |c::r=>if isD c then runL r+1 else 0
theorem zmz: ∀l,runL l≤l.length
 |[]=>Nat.le_refl _
 |c::r=>by
  have:=zmz r
  rw[runL];split<;>simp<;>omega
theorem zlo: ∀(l:List Int) (k:Nat),k<runL l→isD (l.getD k 0)=true
 |[],k,h=>absurd h (Nat.not_lt_zero _)
 |c::r,k,h=>by
  rw[runL]at h
  split at h
  ·rename_i hc
   cases k with
   |zero=>exact hc
   |succ k=>exact zlo r k (by omega)
  ·exact absurd h (Nat.not_lt_zero _)
def zat:List Int→Nat
 |[]=>0
 |c::r=>if c=45 then(if 49≤r.getD 0 0∧r.getD 0 0≤57 then runL r+1 else 0)else if c=48 then 1 else runL (c::r)
def zbe (l:List Int):Bool:=decide (l≠[]∧zat l=l.length)
theorem zef: ∀l,zat l≤l.length
 |[]=>Nat.le_refl _
 |c::r=>by
  have h1:=zmz r
  have h2:=zmz (c::r)
  rw[zat]
  split
  ·split
   ·simp;omega
   ·simp
  ·split
   ·simp
   ·exact h2
def AllD (l:List Int):Prop:= ∀x∈l,48≤x∧x≤57
theorem AllD.at {l:List Int} (h:AllD l) (k:Nat) (hk:k<l.length):48≤l.getD k 0∧l.getD k 0≤57:=by
 rw[List.getD_eq_getElem?_getD,List.getElem?_eq_getElem hk]
 exact h _ (List.getElem_mem hk)
theorem zdx: ∀{l:List Int},AllD l→runL l=l.length
 |[],_=>rfl
 |c::r,h=>by
  rw[runL,if_pos (isD_iff.2 (h c (by simp))),zdx (fun x hx=>h x (List.mem_cons_of_mem _ hx))];rfl
theorem zoc: ∀{l:List Int},runL l=l.length→AllD l
 |[],_=>fun x hx=>by cases hx
 |c::r,h=>by
  rw[runL]at h
  by_cases hc:isD c=true
  ·rw[if_pos hc]at h
   have:=zoc (l:=r) (by simpa using h)
   intro x hx
   rcases List.mem_cons.1 hx with rfl|hx
   ·exact isD_iff.1 hc
   ·exact this x hx
  ·rw[if_neg hc]at h
   simp at h
theorem zdl {l:List Int} (h:l.getD 0 0≠45):zbe l=true↔AllD l∧(l.length=1∨1<l.length∧l.getD 0 0≠48):=by
 unfold zbe
 rw[decide_eq_true_eq]
 cases l with
 |nil=>simp
 |cons c r=>
  rw[List.getD_cons_zero]at h⊢
  rw[zat,if_neg h]
  by_cases h48:c=48
  ·rw[if_pos h48]
   constructor
   ·rintro⟨_,h1⟩
    have:r=[]:=List.eq_nil_of_length_eq_zero (by simpa using h1.symm)
    subst this
    exact⟨fun x hx=>by simp at hx;omega,.inl rfl⟩
   ·rintro⟨_,h1|⟨_,h1⟩⟩
    ·exact⟨by simp,h1.symm⟩
    ·exact absurd h48 h1
  ·rw[if_neg h48]
   constructor
   ·rintro⟨_,h1⟩
    refine⟨zoc h1,?_⟩
    cases r with
    |nil=>exact .inl rfl
    |cons a t=>exact .inr ⟨by simp,h48⟩
   ·rintro⟨h1,_⟩
    exact⟨by simp,zdx h1⟩
theorem zmd (r:List Int):zbe (45::r)=true↔r≠[]∧r.getD 0 0≠48∧r.getD 0 0≠45∧zbe r=true:=by
 have hl:zat (45::r)=if 49≤r.getD 0 0∧r.getD 0 0≤57 then runL r+1 else 0:=by rw[zat,if_pos rfl]
 have h0:zbe (45::r)=true↔zat (45::r)=r.length+1:=by
  unfold zbe;rw[decide_eq_true_eq];simp
 rw[h0,hl]
 constructor
 ·intro h
  split at h
  ·rename_i hc
   have hne:r≠[]:=fun e=>by rw[e]at hc;simp at hc
   have hall:=zoc (l:=r) (by omega)
   refine⟨hne,by omega,by omega,(zdl (by omega)).2 ⟨hall,?_⟩⟩
   have:=List.length_pos_iff.2 hne
   rcases Nat.lt_or_ge 1 r.length with h1|h1
   ·exact .inr ⟨h1,by omega⟩
   ·exact .inl (by omega)
  ·omega
 ·rintro⟨hne,h48,h45,hf⟩
  obtain⟨hall,_⟩:=(zdl h45).1 hf
  have:=hall.at 0 (List.length_pos_iff.2 hne)
  rw[if_pos (by omega),zdx hall]
theorem zjc: ∀(l:List Int) (a:Nat),l.foldl (fun a c=>a*10+(c-48).toNat) a=a*10^l.length+valL l
 |[],a=>by rw[zgk];simp
 |c::r,a=>by
  rw[List.foldl_cons,zjc r,zgk (c::r),List.foldl_cons,zjc r,List.length_cons,Nat.pow_succ]
  rw[Nat.add_mul,Nat.zero_mul,Nat.zero_add,Nat.mul_assoc,Nat.mul_comm 10]
  omega
theorem zjk (c:Int) (r:List Int):valL (c::r)=(c-48).toNat*10^r.length+valL r:=by
 rw[zgk,List.foldl_cons,zjc,Nat.zero_mul,Nat.zero_add]
theorem valL_ge {l:List Int} (h:49≤l.getD 0 0):10^(l.length-1)≤valL l:=by
 cases l with
 |nil=>simp at h
 |cons c r=>
  rw[List.getD_cons_zero]at h
  rw[zjk,List.length_cons,Nat.add_sub_cancel]
  have:1*10^r.length≤(c-48).toNat*10^r.length:=Nat.mul_le_mul_right _ (by omega)
  omega
theorem valL_app (a b:List Int):valL (a++b)=valL a*10^b.length+valL b:=by
 rw[zgk,List.foldl_append,zjc,←zgk]
theorem zfn (l:List Int) (k:Nat):valL (l.take k)≤valL l:=by
 have h:=valL_app (l.take k) (l.drop k)
 rw[List.take_append_drop]at h
 have:valL (l.take k)*1≤valL (l.take k)*10^(l.drop k).length:=Nat.mul_le_mul_left _ (Nat.pow_pos (by decide))
 omega
def numL (l:List Int):Int:=if l.getD 0 0=45 then-(valL (l.drop 1):Int)else(valL l:Int)
def fitL (l:List Int) (least most:Int):Bool:=decide (-9223372036854775808≤numL l∧numL l≤9223372036854775807∧least≤numL l∧numL l≤most)
theorem zdm {l:List Int} (h:zbe l=true):(l.getD 0 0=45∧AllD (l.drop 1)∧49≤(l.drop 1).getD 0 0∧l=45::l.drop 1)∨(l.getD 0 0≠45∧AllD l∧l≠[]∧(49≤l.getD 0 0∨l.length=1)):=by
 by_cases h45:l.getD 0 0=45
 ·cases l with
  |nil=>simp at h45
  |cons c r=>
   rw[List.getD_cons_zero]at h45
   subst h45
   obtain⟨hne,h1,h2,hf⟩:=(zmd r).1 h
   obtain⟨hall,_⟩:=(zdl h2).1 hf
   have:=hall.at 0 (List.length_pos_iff.2 hne)
   exact .inl ⟨rfl,hall,by show 49≤r.getD 0 0;omega,rfl⟩
 ·obtain⟨hall,h1⟩:=(zdl h45).1 h
  have hne:l≠[]:=fun e=>by subst e;simp at h1
  refine .inr ⟨h45,hall,hne,?_⟩
  rcases h1 with h1|⟨_,h1⟩
  ·exact .inr h1
  ·have:=hall.at 0 (List.length_pos_iff.2 hne)
   exact .inl (by omega)
def okB (c:Int):Bool:=decide ((97≤c∧c≤122)∨(48≤c∧c≤57)∨c=46∨c=58∨c=95∨c=45)
def zbh (l:List Int):Bool:=decide (1≤l.length∧l.length≤32)&&l.all okB
theorem zax {a b:Bool} (h:a=b):Ending.returned (.bool a)= .returned (.bool b):=by rw[h]
theorem zhv (s:ByteArray) (k:Nat) (h:k<s.size):(strL s).drop k=(s[k].toNat:Int)::(strL s).drop (k+1):=by
 rw[List.drop_eq_getElem_cons (by rw[zaX];exact h)]
 congr 1
 have:=zaz s k h
 rw[List.getD_eq_getElem?_getD,List.getElem?_eq_getElem (by rw[zaX];exact h)]at this
 exact this
theorem mayBeIn_any (c:Int) (w:World) (h0:0≤c) (h1:c≤255):
  Calls Tryz.prog 90 #[.int .u8 c] w fun e w'=>e= .returned (.bool (okB c))∧w=w':=by
 have key:((97≤c∧c≤122)∨(48≤c∧c≤57)∨c=46∨c=58∨c=95∨c=45)∨((¬97≤c∨ ¬c≤122)∧(¬48≤c∨ ¬c≤57)∧c≠46∧c≠58∧c≠95∧c≠45):=by omega
 rcases key with(⟨a,b⟩|⟨a,b⟩|rfl|rfl|rfl|rfl)|⟨k1,k2,e1,e2,e3,e4⟩
 ·have HR:Hid (okB c=true):=Lib.hid (by simp[okB,a,b])
  go_enter Tryz.func90,Tryz.ntmps90
  go_wp2
  all_goals(go_ret;exact⟨zax HR.out.symm,rfl⟩)
 ·have HR:Hid (okB c=true):=Lib.hid (by simp[okB,a,b])
  have a1: ¬97≤c:=by omega
  go_enter Tryz.func90,Tryz.ntmps90
  go_wp2
  all_goals(go_ret;exact⟨zax HR.out.symm,rfl⟩)
 ·go_enter Tryz.func90,Tryz.ntmps90
  go_wp2
  all_goals(go_ret;exact⟨rfl,rfl⟩)
 ·go_enter Tryz.func90,Tryz.ntmps90
  go_wp2
  all_goals(go_ret;exact⟨rfl,rfl⟩)
 ·go_enter Tryz.func90,Tryz.ntmps90
  go_wp2
  all_goals(go_ret;exact⟨rfl,rfl⟩)
 ·go_enter Tryz.func90,Tryz.ntmps90
  go_wp2
  all_goals(go_ret;exact⟨rfl,rfl⟩)
 ·have HR:Hid (okB c=false):=Lib.hid (by simp only[okB,decide_eq_false_iff_not];omega)
  have q1:(c==46)=false:=by simp[e1]
  have q2:(c==58)=false:=by simp[e2]
  have q3:(c==95)=false:=by simp[e3]
  have q4:(c==45)=false:=by simp[e4]
  clear e1 e2 e3 e4
  rcases k1 with k1|k1<;>rcases k2 with k2|k2
  all_goals
   go_enter Tryz.func90,Tryz.ntmps90
   go_wp2
   all_goals first|(exfalso;omega)|(go_ret;exact⟨zax HR.out.symm,rfl⟩)
theorem zho {l:List Int} (h:zbh l=true):1≤l.length∧l.length≤32:=by
 unfold zbh at h
 rw[Bool.and_eq_true]at h
 exact of_decide_eq_true h.1
theorem zgJ (s:ByteArray) (w:World):
  Calls Tryz.prog 57 #[.string s] w fun e w'=>e= .returned (.bool (zbh (strL s)))∧w=w':=by
 have HLEN:=Lib.hid (zaX s)
 by_cases h1:s.size=0
 ·obtain rfl:s=⟨#[]⟩:=by
   obtain⟨d⟩:=s
   have:d.size=0:=h1
   rw[Array.eq_empty_of_size_eq_zero this]
  go_enter Tryz.func57,Tryz.ntmps57
  go_wp2
  go_ret
  exact⟨rfl,rfl⟩
 ·have hne:(s.toList==([]:List UInt8))=false:=by
   rw[beq_eq_false_iff_ne,ByteArray.toList_eq]
   intro e
   apply h1
   show s.data.size=0
   rw[←Array.length_toList,e];rfl
  have hne2:(s.toList==(⟨#[]⟩:ByteArray).toList)=false:=by rw[show(⟨#[]⟩:ByteArray).toList=[]by rw[ByteArray.toList_eq]];exact hne
  by_cases h2:s.size≤32
  ·have h3: ¬(32:Int)<(s.size:Int):=by omega
   have hn:zbh (strL s)=(strL s).all okB:=by
    unfold zbh
    rw[decide_eq_true (by rw[zaX];omega),Bool.true_and]
   rw[hn]
   clear hn
   go_enter Tryz.func57,Tryz.ntmps57
   go_wp2
   go_loop [13] (fun v=> ∃k:Nat,k≤s.size∧v= .int .i64 (k:Int)∧(strL s).all okB=((strL s).drop k).all okB) (fun v=>s.size-(intOf v).toNat)
   case atStart=>exact⟨0,Nat.zero_le _,rfl,rfl⟩
   case round=>
    obtain⟨k,hk,rfl,hrun⟩:=hrel
    have HRUN:=Lib.hid hrun
    clear hrun
    by_cases hlt:k<s.size
    ·have hd:=zhv s k hlt
     have hi0:(0:Int)≤(k:Int):=by omega
     have hcb:=s[k].toNat_lt
     have HM:=Lib.hid (fun W:World=>mayBeIn_any (s[k].toNat:Int) W (by omega) (by omega))
     cases ho:okB (s[k].toNat:Int)with
     |false=>
      have HR:Hid ((strL s).all okB=false):=Lib.hid (by rw[HRUN.out,hd,List.all_cons,ho];rfl)
      rw[ho]at HM
      clear hd ho hcb
      go_wp2_with(go_at_call 90;(with_reducible refine(HM.out _).mono ?_);rintro e w' ⟨rfl,rfl⟩)
      go_ret
      exact⟨zax HR.out.symm,rfl⟩
     |true=>
      have HR:Hid ((strL s).all okB=((strL s).drop (k+1)).all okB):=Lib.hid (by rw[HRUN.out,hd,List.all_cons,ho];rfl)
      rw[ho]at HM
      clear hd ho hcb
      go_wp2_with(go_at_call 90;(with_reducible refine(HM.out _).mono ?_);rintro e w' ⟨rfl,rfl⟩)
      go_round
      case rel=>exact⟨k+1,by omega,by go_num,HR.out⟩
      case measure=>simp[intOf];omega
    ·obtain rfl:k=s.size:=by omega
     have HR:Hid ((strL s).all okB=true):=Lib.hid (by rw[HRUN.out,List.drop_of_length_le (by rw[HLEN.out];exact Nat.le_refl _)];rfl)
     clear hlt
     go_wp2
     go_ret
     exact⟨zax HR.out.symm,rfl⟩
  ·have h3:(32:Int)<(s.size:Int):=by omega
   have HR:Hid (zbh (strL s)=false):=Lib.hid (by unfold zbh;rw[decide_eq_false (by rw[zaX];omega),Bool.false_and])
   go_enter Tryz.func57,Tryz.ntmps57
   go_wp2
   go_ret
   exact⟨zax HR.out.symm,rfl⟩
end Go.Proofs.YtjfgmgkhinehaaaGreatDoor
namespace Go.Proofs.YtjfgmgkhinehaaaGreatDoor
open Go Go.RowKit Go.Maps
theorem strKey:Keyed Tryz.prog 9:=string_keyed Tryz.underlying9
theorem zeroUnit (w:World):(zeroValue 210).run Tryz.prog w= .ok (.agg #[]) w:=by kernel_rfl
theorem run_makeMapN (n:Nat) (w:World):(Instr.makeMap 209 (some (.int .i64 (n:Int)))).run Tryz.prog w= .ok (.map (some w.heap.size)) (w.alloc (.map #[] 0)):=by
 unfold Instr.makeMap
 simp[Sem.run_bind,run_underlying Tryz.underlying209,asInt]
 rfl
def setD (ns:List ByteArray):DataW Unit:=setOf (.agg []) (ns.map fun x=>Lit.string (nmL x))
theorem has_setD (ns:List ByteArray) (x:ByteArray):Maps.has (setD ns) (.string (nmL x))=hasN ns x:=by
 unfold setD
 rw[has_setOf _ _ _ (by intro y hy;obtain⟨z,_,rfl⟩:=List.mem_map.1 hy;trivial),List.any_map]
 unfold hasN
 congr 1
 funext y
 show(Lit.string (nmL y)).sameKey (.string (nmL x))=(y.toList==x.toList)
 rw[zga,zga];rfl
theorem setD_snoc (ns:List ByteArray) (x:ByteArray):setD (ns++[x])=(setD ns).put (.string (nmL x)) (.agg []):=by
 unfold setD
 rw[List.map_append,List.map_singleton,setOf_snoc]
theorem keyS (x:ByteArray) (h:x.size≤1000000000):keyOf Tryz.prog 9 (.string x)=some (.string (nmL x)):=Go.WideMaps.keyOf_string_mk Tryz.underlying9 (by unfold maxLen;omega)
def SetAt (w:World) (vb mb:Nat) (ns:List ByteArray):Prop:=w.cell? ⟨vb,0,none⟩=some (.map (some mb))∧vb<w.heap.size∧mb<w.heap.size∧ ∃n,w.ownsMap Tryz.prog 9 unitElem mb n (setD ns)
theorem SetAt.below {w w':World} {vb mb:Nat} {ns:List ByteArray} (h:SetAt w vb mb ns) (hb:Below w.heap.size w w'):SetAt w' vb mb ns:=by
 obtain⟨h1,h2,h3,n,es,clock,h4,h5⟩:=h
 exact⟨(hb.cell (p:=⟨vb,0,none⟩) h2).trans h1,Nat.lt_of_lt_of_le h2 hb.size,Nat.lt_of_lt_of_le h3 hb.size,n,es,clock,by rw[hb.block mb h3];exact h4,h5⟩
theorem isIn_any (vb mb:Nat) (ns:List ByteArray) (x:ByteArray) (w:World) (h:SetAt w vb mb ns) (hx:x.size≤1000000000):
  Calls Tryz.prog 155 #[.string x,.pointer (some ⟨vb,0,none⟩)] w fun e w'=>e= .returned (.bool (hasN ns x))∧Below w.heap.size w w':=by
 obtain⟨h1,h2,h3,n,hown⟩:=h
 have HR:Hid (Maps.has (setD ns) (.string (nmL x))=hasN ns x):=Lib.hid (has_setD ns x)
 have HOW:=Lib.hid hown
 have HK:=Lib.hid (keyS x hx)
 have HB:=Lib.hid (fun o=>zaf w o)
 clear hown
 go_enter Tryz.func155,Tryz.ntmps155
 go_wp2_with(at_lookup;refine wpList_lookup_own_unit _ rfl _ _ 209 rfl 9 210 strKey Tryz.underlying209 (zeroUnit _) mb n _ rfl HOW.out _ _ rfl HK.out ?_;rw[HR.out])
 go_ret
 exact⟨rfl,HB.out _⟩
theorem among_any (v:Value) (ns:List ByteArray) (w:World) (h:SliceN w v ns) (hn:ns.length≤1000000000):
  Calls Tryz.prog 126 #[v] w fun e w'=> ∃vb mb,e= .returned (.func (.func 155) #[] #[.pointer (some ⟨vb,0,none⟩)])∧w.heap.size≤vb∧SetAt w' vb mb ns∧Below w.heap.size w w':=by
 obtain⟨A,c,rfl,hc,hl,hok⟩:=h
 obtain⟨n,hnn⟩: ∃n,n=ns.length:=⟨_,rfl⟩
 rw[←hnn]at hc hn⊢
 have HN:=Lib.hid hnn
 have HL:=Lib.hid hl
 have HOK:=Lib.hid hok
 have hmm:=run_makeMapN n
 have HM0:Hid (∀W:World,(W.alloc (.map #[] 0)).ownsMap Tryz.prog 9 unitElem W.heap.size 0 (setD [])):=Lib.hid (fun W=>World.ownsMap_made _ _ _ _)
 clear hnn hl hok
 go_enter Tryz.func126,Tryz.ntmps126
 go_wp2
 go_loopw[11] (fun i wr=> ∃k:Nat,k≤n∧i= .int .i64 (k:Int)∧wr.ownsMap Tryz.prog 9 unitElem w.heap.size k (setD (ns.take k))∧wr.cell? ⟨w.heap.size+1,0,none⟩=some (.map (some w.heap.size))∧Below w.heap.size w wr∧w.heap.size+2≤wr.heap.size) (fun i _=>n-(intOf i).toNat)
 case atStart=>
  refine⟨0,Nat.zero_le _,rfl,?_,by simp,?_,by simp⟩
  ·rw[List.take_zero]
   exact(HM0.out w).alloc _
  ·exact(zaf w _).alloc (by simp) _
 case round=>
  obtain⟨k,hk,rfl,hown,hvar,hbel,hsz⟩:=hrel
  have HOW:=Lib.hid hown
  have HBE:=Lib.hid hbel
  clear hown hbel
  by_cases hlt:k<n
  ·have hkl:k<ns.length:=by rw[←HN.out];exact hlt
   obtain⟨b,o,rfl,_,hcell⟩:=(HL.out.below HBE.out).at hkl
   have hi0:(0:Int)≤(k:Int):=by omega
   have HST:Hid (setD (ns.take (k+1))=(setD (ns.take k)).put (.string (nmL ns[k])) (.agg [])):=Lib.hid (by rw[List.take_succ_eq_append_getElem hkl,setD_snoc])
   have HK:=Lib.hid (keyS ns[k] (HOK.out _ (List.getElem_mem hkl)))
   obtain⟨x,hx⟩: ∃x,x=ns[k]:=⟨_,rfl⟩
   rw[←hx]at hcell HST HK
   clear hx hkl
   go_wp2_with(at_mapUpdate;refine wpList_mapUpdate_own _ rfl _ _ _ 209 rfl 9 210 strKey Tryz.underlying209 (unitElem (H:=Unit)) w.heap.size k _ rfl HOW.out (by unfold maxLen;omega) _ _ _ rfl rfl HK.out _ [] unitElem_mk ?_;intro w1 hown1 hgrow1)
   have h1:=hgrow1.size
   have hv1:w1.cell? ⟨w.heap.size+1,0,none⟩=some (.map (some w.heap.size)):=by
    rw[←hvar];unfold World.cell?
    rw[hgrow1.block (w.heap.size+1) (by omega) (by simp)]
   go_roundw
   case rel=>exact⟨k+1,by omega,by go_num,by rw[HST.out];exact hown1,hv1,HBE.out.grown hgrow1 HBE.out.size (fun j hj=>by cases hj;exact Nat.le_refl _),by omega⟩
   case measure=>simp[intOf];omega
  ·obtain rfl:k=n:=by omega
   have HT:Hid (ns.take k=ns):=Lib.hid (by rw[HN.out];exact List.take_length)
   clear hlt
   go_wp2
   go_ret
   refine⟨w.heap.size+1,w.heap.size,rfl,by omega,⟨hvar,by omega,by omega,k,?_⟩,HBE.out⟩
   have:=HOW.out
   rwa [HT.out]at this
end Go.Proofs.YtjfgmgkhinehaaaGreatDoor
namespace Go.Proofs.YtjfgmgkhinehaaaGreatDoor
open Go Go.RowKit
def zea:List UInt8→List (List UInt8)
 |[]=>[[]]
 |c::r=>if c=32 then[]::zea r else
  match zea r with
  |p::ps=>(c::p)::ps
  |[]=>[[c]]
theorem ziJ: ∀(a b:List UInt8),32 ∉ a→zea (a++32::b)=a::zea b
 |[],b,_=>by simp[zea]
 |c::r,b,h=>by
  have hc: ¬c=32:=fun e=>h (by simp[e])
  have ih:=ziJ r b (fun k=>h (List.mem_cons_of_mem _ k))
  rw[List.cons_append,zea,if_neg hc,ih]
theorem zgi: ∀(a:List UInt8),32 ∉ a→zea a=[a]
 |[],_=>rfl
 |c::r,h=>by
  have hc: ¬c=32:=fun e=>h (by simp[e])
  rw[zea,if_neg hc,zgi r (fun k=>h (List.mem_cons_of_mem _ k))]
theorem zkj (c:UInt8): ∀l:List UInt8,(Lib.indexByte l c= -1∧c ∉ l)∨ ∃a b,l=a++c::b∧c ∉ a∧Lib.indexByte l c=a.length
 |[]=> .inl ⟨rfl,by simp⟩
 |b::l=>by
  unfold Lib.indexByte
  by_cases h:b=c
  ·subst h
   exact .inr ⟨[],l,rfl,by simp,by simp⟩
  ·have hb:(b==c)=false:=beq_eq_false_iff_ne.2 h
   have h': ¬c=b:=fun e=>h e.symm
   rcases zkj c l with⟨h1,h2⟩|⟨a,b',h1,h2,h3⟩
   ·exact .inl ⟨by rw[hb,h1];rfl,by simp[h',h2]⟩
   ·refine .inr ⟨b::a,b',by rw[h1];rfl,by simp[h',h2],?_⟩
    have hn:((a.length:Int)== -1)=false:=by rw[beq_eq_false_iff_ne];omega
    rw[hb,h3]
    simp[hn]
def zda (s:ByteArray):List ByteArray:=(zea (nmL s)).map ofL
theorem cut_words (s:ByteArray):((Lib.cut (nmL s) [32]).2.2=true∧zda s=ofL (Lib.cut (nmL s) [32]).1::zda (ofL (Lib.cut (nmL s) [32]).2.1)∧(Lib.cut (nmL s) [32]).2.1.length<s.size∧(Lib.cut (nmL s) [32]).1.length≤s.size)∨((Lib.cut (nmL s) [32]).2.2=false∧zda s=[ofL (Lib.cut (nmL s) [32]).1]∧(Lib.cut (nmL s) [32]).1.length≤s.size∧(Lib.cut (nmL s) [32]).2.1.length≤s.size):=by
 have hsz:s.size=(nmL s).length:=by unfold nmL;rw[Array.length_toList];rfl
 rcases zkj 32 (nmL s)with⟨h1,h2⟩|⟨a,b,h1,h2,h3⟩
 ·have hi:Lib.index (nmL s) [32]= -1:=(Lib.index_one _ _).trans h1
  refine .inr ?_
  unfold Lib.cut
  rw[hi,if_neg (by decide)]
  refine⟨rfl,?_,by rw[hsz];exact Nat.le_refl _,by simp⟩
  unfold zda
  rw[zgi _ h2];rfl
 ·have hi:Lib.index (nmL s) [32]=(a.length:Int):=(Lib.index_one _ _).trans h3
  have hd:(nmL s).drop (a.length+1)=b:=by rw[h1,List.drop_append];simp
  have ht:(nmL s).take a.length=a:=by rw[h1,List.take_left]
  refine .inl ?_
  unfold Lib.cut
  rw[hi,if_pos (by omega)]
  simp only[Int.toNat_natCast,List.length_singleton,ht,hd]
  refine⟨trivial,?_,by rw[hsz,h1];simp;omega,by rw[hsz,h1];simp⟩
  unfold zda
  rw[h1,ziJ _ _ h2,nmL_ofL];rfl
def okW (ws:List ByteArray):Bool:=ws.all (fun x=>zbh (strL x))&&decide ((setS ws).length≤16)
def zcy (s:ByteArray):List ByteArray:=if s.size=0 then[]else zda s
theorem okW_bad {ws:List ByteArray} {x:ByteArray} (h:x∈ws) (hx:zbh (strL x)=false):okW ws=false:=by
 unfold okW
 rw[show ws.all (fun x=>zbh (strL x))=false by rw[List.all_eq_false];exact⟨x,h,by rw[hx];simp⟩,Bool.false_and]
theorem znn {a b:List ByteArray} (h:16<(setS a).length):okW (a++b)=false:=by
 have:=setS_mono a b
 unfold okW
 rw[decide_eq_false (by omega),Bool.and_false]
theorem okW_good {ws:List ByteArray} (h: ∀x∈ws,zbh (strL x)=true) (hl:(setS ws).length≤16):okW ws=true:=by
 unfold okW
 rw[decide_eq_true hl,Bool.and_true,List.all_eq_true];exact h
def zcY (s:ByteArray):List ByteArray:=if okW (zcy s)=true then setS (zcy s)else[]
end Go.Proofs.YtjfgmgkhinehaaaGreatDoor
namespace Go.Proofs.YtjfgmgkhinehaaaGreatDoor
open Go Go.RowKit Go.Shelf
theorem enterIn: ∀args w,(callFunc 155 args).run Tryz.prog w= .ok (.enter 155 args) w:=enters_of Tryz.func155 (by kernel_rfl) rfl
theorem within_lies (A:Option Addr) (c:Nat) (vb:Value) (a b:List ByteArray) (w:World) (hl:LiesN w A a) (hok:NmOk a) (hb:SliceN w vb b) (hn:a.length≤1000000000) (hn2:b.length≤1000000000):
  Calls Tryz.prog 93 #[.slice A a.length c,vb] w fun e w'=>e= .returned (.bool (a.all (hasN b)))∧Below w.heap.size w w':=by
 obtain⟨n,hnn⟩: ∃n,n=a.length:=⟨_,rfl⟩
 rw[←hnn]at hn⊢
 have HN:=Lib.hid hnn
 have HL:=Lib.hid hl
 have HOK:=Lib.hid hok
 have HM:=Lib.hid (among_any vb b w hb hn2)
 have eg:=enterIn
 obtain⟨R,hR⟩: ∃R,R=a.all (hasN b):=⟨_,rfl⟩
 rw[←hR]
 have HR:=Lib.hid hR
 clear hb hnn hl hok hR
 go_enter Tryz.func93,Tryz.ntmps93
 go_wp2_with fail
 refine HM.out.mono ?_
 rintro e w1 ⟨bx,mb,rfl,hvb,hset,hb1⟩
 have HSET:=Lib.hid hset
 have HB1:=Lib.hid hb1
 clear hset hb1 HM
 go_wp2
 go_loopw[12] (fun i wr=> ∃k:Nat,k≤n∧i= .int .i64 (k:Int)∧R=(a.drop k).all (hasN b)∧Below w1.heap.size w1 wr) (fun i _=>n-(intOf i).toNat)
 case atStart=>exact⟨0,Nat.zero_le _,rfl,HR.out,Below.refl _ _⟩
 case round=>
  obtain⟨k,hk,rfl,hrun,hbel⟩:=hrel
  have HBE:=Lib.hid hbel
  have HRUN:=Lib.hid hrun
  clear hbel hrun
  by_cases hlt:k<n
  ·have hkl:k<a.length:=by rw[←HN.out];exact hlt
   obtain⟨b',o,rfl,_,hcell⟩:=((HL.out.below HB1.out).below HBE.out).at hkl
   have hi0:(0:Int)≤(k:Int):=by omega
   have HD:Hid (a.drop k=a[k]::a.drop (k+1)):=Lib.hid (List.drop_eq_getElem_cons hkl)
   have HIN:=Lib.hid (isIn_any bx mb b a[k] wr (HSET.out.below HBE.out) (HOK.out _ (List.getElem_mem hkl)))
   obtain⟨x,hx⟩: ∃x,x=a[k]:=⟨_,rfl⟩
   rw[←hx]at hcell HD HIN
   clear hx hkl
   cases hp:hasN b x with
   |true=>
    rw[hp]at HIN
    have HST:Hid (R=(a.drop (k+1)).all (hasN b)):=Lib.hid (by rw[HRUN.out,HD.out,List.all_cons,hp,Bool.true_and])
    clear hp
    go_wp2_with fail
    refine HIN.out.mono ?_
    rintro e w2 ⟨rfl,hb2⟩
    have HB2:=Lib.hid (HBE.out.trans (hb2.mono HBE.out.size))
    clear hb2
    go_wp2
    go_roundw
    case rel=>exact⟨k+1,by omega,by go_num,HST.out,HB2.out⟩
    case measure=>simp[intOf];omega
   |false=>
    rw[hp]at HIN
    have HST:Hid (R=false):=Lib.hid (by rw[HRUN.out,HD.out,List.all_cons,hp,Bool.false_and])
    clear hp
    go_wp2_with fail
    refine HIN.out.mono ?_
    rintro e w2 ⟨rfl,hb2⟩
    have HB2:=Lib.hid (HBE.out.trans (hb2.mono HBE.out.size))
    clear hb2
    go_wp2
    go_ret
    exact⟨zax HST.out.symm,HB1.out.trans (HB2.out.mono HB1.out.size)⟩
  ·obtain rfl:k=n:=by omega
   have HST:Hid (R=true):=Lib.hid (by rw[HRUN.out,HN.out,List.drop_length];rfl)
   clear hlt
   go_wp2
   go_ret
   exact⟨zax HST.out.symm,HB1.out.trans (HBE.out.mono HB1.out.size)⟩
end Go.Proofs.YtjfgmgkhinehaaaGreatDoor
