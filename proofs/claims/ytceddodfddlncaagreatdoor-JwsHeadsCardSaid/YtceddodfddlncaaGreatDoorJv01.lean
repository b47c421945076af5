
import Derived.WalkKit
import Derived.Below
import Derived.Laws.Rows
import Derived.Laws.Tables
import Derived.Laws.OwnMore
import Derived.Laws.CopyOwn
import Derived.Deep.Draws
import Derived.Deep.MidRow
import Derived.Deep.WholeRow
import Derived.Maps.AppendAt
import Derived.Lib.Hide
import Derived.Deep.RegionLaw
import Derived.Lib.ConvBytes
import Derived.Test.YtceddodfddlncaaGreatDoorProg
import Derived.Laws.BytesString
import Derived.Laws.BytesArg
import Derived.Lib.SlicesCompact
import Derived.Maps.OwnSet
import Derived.Lib.OwnBridge
import Derived.Sort.OwnSorted
import Derived.Deep.QuietTactic
import Derived.BigQuiet
import Derived.IntWalk
import Derived.Lib.Split
import Derived.Lib.Join
import Derived.Deep.RegionHeld3
import Derived.Shelf.Abstract
import Derived.Maps.RangeWalk
set_option maxRecDepth 100000
set_option maxHeartbeats 16000000
set_option linter.all false
namespace Go.Proofs.YtceddodfddlncaaGreatDoor
open Go Go.RowKit Tryz
theorem yab {a b c:World} (h:Hid (Below a.heap.size a b)) (k:Below b.heap.size b c):Hid (Below a.heap.size a c):=Lib.hid (h.out.trans (k.mono h.out.size))
theorem yaa {α:Sort _} (a:α):∃x,x=a:=⟨a,rfl⟩
def dM:=@Lib.hid
def dN:=@if_neg
def dO:=@World.grownBy_alloc
def dP:=@if_pos
def dQ:=@Nat.le_refl
def dR:=@List.getD_eq_getElem?_getD
def dS:=@List.length_append
def dT:=@decide_eq_false
def dU:=@Below.refl
def dX:=@Nat.lt_of_lt_of_le
def dY:=@beq_eq_false_iff_ne
def dZ:=@List.getElem?_eq_getElem
def ea:=@List.eq_nil_of_length_eq_zero
def eb:=@decide_eq_true_eq
def ec:=@decide_eq_true
def ee:=@underlying46
def en:=@AllReadyH.cons
def eo:=@List.take_of_length_le
def ep:=@List.length_take
def eq:=@List.length_drop
def es:=@IntKind.wrap_i64
def eu:=@List.length_cons
def ew:=@underlying9
def ez:=@List.getElem?_append_right
def eA:=@List.getD_cons_zero
def eC:=@heap_alloc_new
def eD:=@List.drop_eq_getElem_cons
def eE:=@List.mem_cons_of_mem
def eF:=@List.mem_cons
def eL:=@Nat.zero_add
def eM:=@AllReadyH.nil
def eN:=@Nat.zero_le
def eO:=@wpAnyH_ready
def eP:=@List.getElem?_eq_some_iff
def eS:=@List.take_succ_eq_append_getElem
def eT:=@ByteArray.toList_eq
def eW:=@Addr.add_mid
def eX:=@Nat.lt_or_ge
def fb:=@Bool.and_eq_true
def fc:=@underlying5
def fe:=@List.getElem_mem
def ff:=@List.cons_append
def fo:=@List.drop_eq_nil_of_le
def fs:=@List.nil_append
def fw:=@List.append_assoc
def fx:=@List.not_mem_nil
def fy:=@List.getD_cons_succ
def fz:=@decide_eq_false_iff_not
def fA:=@List.mem_append
def fB:=@List.drop_of_length_le
def fF:=@Sem.run_bind
def fG:=@of_decide_eq_true
def fJ:=@List.getElem?_eq_none
def fO:=@List.length_nil
def gl:=@List.map_append
def gm:=@beq_iff_eq
def gu:=@List.take_append_drop
def gv:=@Int.eq_ofNat_of_zero_le
def gI:=@List.getElem?_take
def gJ:=@enters_of
def gO:=@Option.getD_some
def gP:=@List.drop_append_of_le_length
def gU:=@Nat.not_lt_zero
def gZ:=@List.map_cons
def g9:=@List.take_length
def io:=@List.take_succ_cons
def iq:=@List.getElem?_set
def iu:=@List.drop_zero
def iv:=@Bool.false_and
def iA:=@Bool.eq_iff_iff
def iU:=@BitVec.toNat_ofInt
def iW:=@List.take_append_of_le_length
def iX:=@Nat.mul_le_mul_right
def i7:=@List.mem_iff_getElem
def i8:=@run_underlying
def jb:=@Result.andThen_ok
def jc:=@List.getElem?_cons_succ
def jd:=@List.getElem?_replicate
def je:=@or_false
def jf:=@List.length_pos_iff
def jo:=@List.getElem?_drop
def jr:=@Nat.add_sub_cancel
def js:=@List.length_singleton
def ju:=@List.length_set
def jx:=@Bool.or_eq_true
def jC:=@World.cell?_of_block
def jF:=@List.map_congr_left
def jG:=@List.take_zero
def jH:=@Nat.shiftLeft_eq
def jK:=@List.drop_drop
def jM:=@Nat.shiftLeft_add_eq_or_of_lt
def jN:=@List.mem_map
def jV:=@List.map_map
def jY:=@Array.getElem?_eq_none
def j2:=@length_splice
def j3:=@List.map_take
def ka:=@List.getElem?_map
def kh:=@List.drop_take
def ki:=@cell_of_row
def kk:=@ntmps76
def km:=@wpList_plain
def ko:=@IntKind.wrap_u32
def kG:=@heap_setCell_other
def kI:=@wpAnyH_take
def kJ:=@func76
def kP:=@Int.toNat_natCast
def kQ:=@Nat.add_zero
def kU:=@Bool.and_false
def k7:=@Nat.zero_mul
def k9:=@Nat.and_two_pow_sub_one_eq_mod
def lj:=@List.all_cons
def ln:=@Nat.add_assoc
def lq:=@Bool.true_and
def lu:=@Nat.add_mul
def lw:=@Nat.pow_le_pow_right
def lx:=@List.mem_append_left
def lz:=@List.foldl_cons
def lA:=@UInt8.toNat_inj
def lB:=@Int.natCast_add
def lD:=@Lib.run_convert_string_bytes
def lE:=@List.drop_succ_cons
def lF:=@Lib.bytesWorld_size
def lU:=@List.map_singleton
def lZ:=@List.take_take
def l4:=@underlying195
def l9:=@List.foldl_append
def me:=@Nat.one_mul
def mh:=@heap_setCell_same
def mi:=@Nat.le_zero
def mu:=@Array.toList_inj
def mC:=@Nat.mul_comm
def mF:=@Sem.run_pure
def mH:=@Int.lt_or_le
def mI:=@Int.ofNat_lt
def mM:=@BitVec.toNat_or
def Blk (w:World) (g:Nat) (t:TypeId) (cs:List Value):Prop:=w.heap[g]? =some (.cells cs.toArray t (0,0))
section
variable {w w':World} {g:Nat} {t:TypeId} {cs:List Value}
theorem Blk.lt (h:Blk w g t cs):g<w.heap.size:=by
 rcases eX g w.heap.size with hlt|hge
 ·exact hlt
 ·unfold Blk at h;rw[jY hge]at h;cases h
theorem Blk.cell (h:Blk w g t cs) (i:Nat):w.cell? ⟨g,i,none⟩=cs[i]? :=by
 have:=ki w g i cs.toArray t (0,0) h
 simpa using this
theorem Blk.frozen (h:Blk w g t cs) (i:Nat):w.frozen? ⟨g,i,none⟩=false:=by
 unfold Blk at h
 simp[World.frozen?,h]
theorem Blk.drew (h:Blk w g t cs):Blk w.drew g t cs:=h
theorem Blk.drewN (h:Blk w g t cs) (n:Nat):Blk (w.drewN n) g t cs:=h
theorem Blk.below {B:Nat} (h:Blk w g t cs) (D:Below B w w') (q:g<B):Blk w' g t cs:=(D.block g q).trans h
theorem Blk.grown {row:Option Nat} (h:Blk w g t cs) (B:w.grownBy w' row) (q:some g≠row):Blk w' g t cs:=(B.block g h.lt q).trans h
theorem Blk.grownN (h:Blk w g t cs) (q:w.grownBy w' none):Blk w' g t cs:=h.grown q (by simp)
theorem Blk.range (h:Blk w g t cs) (o:Nat) (q:List Value) (D: ∀j v,q[j]? =some v→cs[o+j]? =some v):w.rangeAt g o q:=fun j v B=>by
 rw[h.cell];exact D j v B
theorem Blk.there (h:Blk w g t cs) (o n:Nat) (q:o+n≤cs.length):w.there g o n:=fun j B=>by
 refine⟨?_,h.frozen _⟩
 rw[h.cell,dZ (by omega)];rfl
end
theorem rG {B:Nat} {a w:World} (h:Below B a w) (n:Nat):Below B a (w.drewN n):=⟨h.os,h.tape,h.output,h.size,h.block⟩
theorem ov (w:World) (row:Option Nat):w.grownBy w row:=⟨rfl,rfl,rfl,dQ _,fun _ _ _=>rfl⟩
theorem od {a w:World} (h:Below a.heap.size a w) (row:Option Nat):a.grownBy w row:=⟨h.os,h.tape,h.output,h.size,fun i hi _=>h.block i hi⟩
theorem Nb {a w:World} {row:Option Nat} (h:a.grownBy w row) (n:Nat):a.grownBy (w.drewN n) row:=⟨h.os,h.tape,h.output,h.size,h.block⟩
theorem Blk.setCell {w:World} {g:Nat} {t:TypeId} {cs:List Value} (h:Blk w g t cs) (i:Nat) (v:Value):Blk (w.setCell ⟨g,i,none⟩ v) g t (cs.set i v):=by
 have:=mh w g i cs.toArray t v h
 unfold Blk
 rw[this];simp
theorem ou (w:World) (g i:Nat) (v:Value):w.grownBy (w.setCell ⟨g,i,none⟩ v) (some g):=
 ⟨rfl,rfl,rfl,by simp,fun k _ q=>kG w ⟨g,i,none⟩ k v (fun e=>q (by simp[e]))⟩
theorem nx {a w:World} {row:Option Nat} (h:a.grownBy w row):a.grownBy w.drew row:=⟨h.os,h.tape,h.output,h.size,h.block⟩
def c_ (k:IntKind) (l:List Int):List Value:=l.map (Value.int k)
@[simp] theorem b_ (k:IntKind) (l:List Int):(c_ k l).length=l.length:=by simp[c_]
theorem pf (k:IntKind) (l:List Int) (i:Nat) (h:i<l.length):(c_ k l)[i]? =some (.int k (l.getD i 0)):=by
 simp[c_,dZ h]
theorem oW (k:IntKind) (l:List Int): ∀v∈c_ k l,v.oneCell'=true:=by
 intro v q;obtain⟨n,_,rfl⟩:=jN.1 q;rfl
theorem BR (k:IntKind) (l:List Int) (i:Nat) (x:Int):(c_ k l).set i (.int k x)=c_ k (l.set i x):=by simp[c_,List.map_set]
theorem vX (k:IntKind) (l m:List Int):c_ k (l++m)=c_ k l++c_ k m:=by simp[c_]
theorem zx {cs:List Value} (h: ∀v∈cs,v.oneCell'=true):cs.toArray.all (·.oneCell')=true:=all_oneCell_toArray h
section
variable {P:Program} {w:World} {ops:Array Oper} {rest:List Oper} {o:Oper} {a:Act} {Q:Exit→Act→World→Prop}
theorem nG (E:o.guard=none) (d:Option Tmp) (F:o.dst=d) (q:TypeId) (D:o.op= .alloc q) (z:List Value) (hz:(P.info? q).map (·.zero)=some (some (.agg z.toArray)))
  (h: ∀g w',w.heap.size≤g→Blk w' g q z→w.grownBy w' none→wpList P ops Q rest (a.put d (.pointer (some ⟨g,0,none⟩))) w'):wpList P ops Q (o::rest) a w:=by
 subst F
 refine km E fun K G=> ?_
 have B:(zeroValue q).run P w= .ok (.agg z.toArray) w:=by
  cases hq:P.info? q with
  |none=>simp[hq]at hz
  |some i=>
   simp[hq]at hz
   simp[zeroValue,typeInfo,hq,hz]
 unfold Oper.wp execOp
 simp only[D,Instr.alloc,fF,B,jb]
 exact G _ _ (h w.heap.size (w.alloc (.cells z.toArray q)) (dQ _) (eC w _) (dO w _ none))
theorem Ki (E:o.guard=none) (d:Option Tmp) (F:o.dst=d) (q:TypeId) (x:Operand) (D:o.op= .box q x) (z:List Value) (B:a.eval x= .agg z.toArray)
  (h: ∀g w',w.heap.size≤g→Blk w' g q z→w.grownBy w' none→wpList P ops Q rest (a.put d (.pointer (some ⟨g,0,none⟩))) w'):wpList P ops Q (o::rest) a w:=by
 subst F
 refine km E fun K G=> ?_
 unfold Oper.wp execOp
 simp only[D,B,Instr.box,fF]
 exact G _ _ (h w.heap.size (w.alloc (.cells z.toArray q)) (dQ _) (eC w _) (dO w _ none))
theorem pO (L:o.guard=none) (d:Option Tmp) (M:o.dst=d) (B:TypeId) (x:Operand) (I:o.op= .load B x)
  (g D:Nat) (F:a.eval x= .pointer (some ⟨g,D,none⟩)) (t:TypeId) (cs:List Value) (R:Blk w g t cs) (q:List Value)
  (N: ∀j v,q[j]? =some v→cs[D+j]? =some v) (E:TypeDesc)
  (G:P.underlying B=some E) (O:E.isRow=true) (hi:(P.info? B).map (·.size)=some q.length)
  (h:wpList P ops Q rest (a.put d (.agg q.toArray)) w):wpList P ops Q (o::rest) a w:=by
 subst M
 exact wpList_load_mid L B x I g D F q E (R.range D q N) G O hi h
theorem FE (L:o.guard=none) (d:Option Tmp) (M:o.dst=d) (B:TypeId) (x:Operand) (G:o.op= .load B x)
  (g q:Nat) (D:a.eval x= .pointer (some ⟨g,q,none⟩)) (t:TypeId) (cs:List Value) (O:Blk w g t cs) (v:Value) (E:cs[q]? =some v) (k:IntKind)
  (F:P.underlying B=some (.int k))
  (h:wpList P ops Q rest (a.put d v) w):wpList P ops Q (o::rest) a w:=by
 subst M
 refine km L fun K U=> ?_
 have N:w.cell? ⟨g,q,none⟩=some v:=(O.cell q).trans E
 have R:(isAgg B).run P w= .ok false w:=by
  unfold isAgg
  rw[fF,i8 F w]
  rfl
 unfold Oper.wp execOp
 simp only[G,D,Instr.loadAt,Instr.sureAddr,fF,mF,jb,loadVar,R]
 simp only[Bool.false_eq_true,if_false]
 have I:(load ⟨g,q,none⟩).run P w= .ok v w:=by simp[go_sem,N]
 rw[I]
 exact U _ _ h
theorem Iy (g:Nat) (t:TypeId): ∀(vs:List Value) (q:Nat) (cs:List Value) (w:World),Blk w g t cs→q+vs.length≤cs.length→
  Blk (w.setCells g q vs) g t (splice cs q vs)∧w.grownBy (w.setCells g q vs) (some g)
 |[],q,cs,w,hb,_=>by
  refine⟨?_,ov _ _⟩
  simpa[World.setCells,splice]using hb
 |v::r,q,cs,w,hb,hl=>by
  simp only[eu]at hl
  have F:Blk (w.setCell ⟨g,q,none⟩ v) g t (cs.set q v):=by
   have:=mh w g q cs.toArray t v hb
   unfold Blk
   rw[this];simp
  have E:w.grownBy (w.setCell ⟨g,q,none⟩ v) (some g):=⟨rfl,rfl,rfl,by simp,fun k _ D=>kG w ⟨g,q,none⟩ k v (fun e=>D (by simp[e]))⟩
  obtain⟨h1,B⟩:=Iy g t r (q+1) (cs.set q v) _ F (by simp;omega)
  refine⟨?_,E.trans B⟩
  rw[World.setCells]
  have e:splice (cs.set q v) (q+1) r=splice cs q (v::r):=by
   apply List.ext_getElem?
   intro i
   simp only[splice,List.getElem?_append,ep,ju,gI,jo,iq,eu]
   by_cases h1:i<q
   ·simp[h1,show i<min (q+1) cs.length by omega,show i<min q cs.length by omega,show ¬q=i by omega,show i<q+1 by omega]
   ·by_cases B:i=q
    ·subst B
     simp[show i<min (i+1) cs.length by omega,show ¬i<min i cs.length by omega,show i-min i cs.length=0 by omega,show i<cs.length by omega]
    ·simp only[show ¬i<min (q+1) cs.length by omega,show ¬i<min q cs.length by omega,if_false]
     rw[show min (q+1) cs.length=q+1 by omega,show min q cs.length=q by omega]
     obtain⟨j,rfl⟩: ∃j,i=q+1+j:=⟨i-(q+1),by omega⟩
     rw[show q+1+j-(q+1)=j by omega,show q+1+j-q=j+1 by omega]
     simp only[Nat.add_lt_add_iff_right,jc]
     split
     ·rfl
     ·rw[dN (by omega),show q+(r.length+1)+(j+1-(r.length+1))=q+1+r.length+(j-r.length)by omega]
  rw[e]at h1
  exact h1
theorem nn (L:o.guard=none) (d:Option Tmp) (M:o.dst=d) (D:TypeId) (x y:Operand) (I:o.op= .store D x y)
  (g B:Nat) (q:List Value) (G:a.eval x= .pointer (some ⟨g,B,none⟩)) (hy:a.eval y= .agg q.toArray)
  (t:TypeId) (cs:List Value) (F:Blk w g t cs) (E:B+q.length≤cs.length)
  (hi:(P.info? D).map (·.size)=some q.length) (h1: ∀v∈q,v.oneCell'=true)
  (h: ∀w',Blk w' g t (splice cs B q)→w.grownBy w' (some g)→wpList P ops Q rest (a.put d undef) w'):wpList P ops Q (o::rest) a w:=by
 subst M
 exact wpList_store_mid L D x y I g B q.toArray G hy (F.there B _ (by simpa using E)) (by simpa using hi) (zx h1)
  (by have:=Iy g t q B cs w F E;exact h _ this.1 this.2)
theorem tm (R:o.guard=none) (d:Option Tmp) (V:o.dst=d) (B:TypeId) (x y:Operand) (M:o.op= .store B x y)
  (g q:Nat) (v:Value) (F:a.eval x= .pointer (some ⟨g,q,none⟩)) (hy:a.eval y=v) (E:v.oneCell'=true)
  (t:TypeId) (cs:List Value) (D:Blk w g t cs) (N:q<cs.length)
  (hi:(P.info? B).map (·.size)=some 1)
  (h: ∀w',Blk w' g t (cs.set q v)→w.grownBy w' (some g)→wpList P ops Q rest (a.put d undef) w'):wpList P ops Q (o::rest) a w:=by
 subst V
 refine km R fun K Z=> ?_
 have X:w.cell? ⟨g,q,none⟩=some cs[q]:=(D.cell q).trans (dZ N)
 have U:=D.frozen q
 have W:v.cells= #[v]:=by cases v<;>first|rfl|cases E
 have I:(storeVar B ⟨g,q,none⟩ v).run P w= .ok () (w.setCell ⟨g,q,none⟩ v):=by
  cases hq:P.info? B with
  |none=>simp[hq]at hi
  |some i=>
   have L:i.size=1:=by simpa[hq]using hi
   have Y:(⟨g,q,none⟩:Addr).add 0=⟨g,q,none⟩:=by unfold Addr.add;split<;>simp_all
   have G:(store ⟨g,q,none⟩ v .plain).run P w= .ok () (w.setCell ⟨g,q,none⟩ v):=by
    rw[run_store P w _ v _ E]
    simp[X,U]
   simp[storeVar,sizeOf,typeInfo,hq,W,L,storeCells,Y,G]
 unfold Oper.wp execOp
 simp only[M,F,hy,Instr.storeAt,Instr.sureAddr,fF,mF,jb,I]
 refine Z _ _ (h _ ?_ ⟨rfl,rfl,rfl,by simp,fun k _ O=>kG w ⟨g,q,none⟩ k v (fun e=>O (by simp[e]))⟩)
 have:=mh w g q cs.toArray t v D
 unfold Blk
 rw[this];simp
theorem Kj (N:o.guard=none) (d:Option Tmp) (R:o.dst=d) (q:TypeId) (x i:Operand) (L:o.op= .index q x i)
  (cs:List Value) (D:a.eval x= .agg cs.toArray) (k:IntKind) (j:Nat) (hi:a.eval i= .int k (j:Int)) (n e:Nat)
  (F:P.underlying q=some (.array n e)) (M:j<n) (W:IntKind) (O:P.underlying e=some (.int W)) (B:(P.info? e).map (·.size)=some 1) (v:Value) (E:cs[j]? =some v)
  (h:wpList P ops Q rest (a.put d v) w):wpList P ops Q (o::rest) a w:=by
 subst R
 refine km N fun K V=> ?_
 have U:(isAgg e).run P w= .ok false w:=by
  unfold isAgg
  rw[fF,i8 O w]
  rfl
 have I:(Instr.index q (.agg cs.toArray) (.int k (j:Int))).run P w= .ok v w:=by
  cases hq:P.info? e with
  |none=>simp[hq]at B
  |some inf=>
   have G:inf.size=1:=by simpa[hq]using B
   have X:(0:Int)≤(j:Int)∧(j:Int)<(n:Int):=by omega
   simp[Instr.index,asIntOf,i8 F,sizeOf,typeInfo,hq,G,M,part,U,E]
 unfold Oper.wp execOp
 simp only[L,D,hi,fF,jb,I]
 exact V _ _ h
theorem wv {D:Func} {p:Tmp} {B:TypeId} (h:D.results= #[.cell p B]) (tmps:Array Value) (w:World) (g:Nat) (t:TypeId) (cs:List Value) (q:TypeDesc)
  (F:tmps.getD p undef= .pointer (some ⟨g,0,none⟩)) (I:Blk w g t cs)
  (E:P.underlying B=some q) (G:q.isRow=true) (hi:(P.info? B).map (·.size)=some cs.length):
  (results D tmps).run P w= .ok (.agg cs.toArray) w:=
 results_cell_row h tmps w g t cs.toArray (0,0) q F I E (by cases q<;>first|rfl|cases G) (by simpa using hi)
end
theorem nr {α:Type} (cs q:List α) (h:cs.length=q.length):splice cs 0 q=q:=by
 simp[splice,←h]
section
variable {P:Program} {w:World} {ops:Array Oper} {rest:List Oper} {o:Oper} {a:Act} {Q:Exit→Act→World→Prop}
theorem MZ {K:Act→World→Prop} (d s:Operand) (G N:TypeId)
  (ho:o.op= .call {callee:= .builtin .copy,args:= #[d,s],argTypes:= #[G,N]}) (F:TypeId) (X:P.underlying G=some (.slice F)) (Y:(P.info? F).map (·.size)=some 1)
  (V M:Option Addr) (I W E O:Nat) (hd:a.eval d= .slice V I W) (Z:a.eval s= .slice M E O)
  (g D:Nat) (t:TypeId) (cs:List Value) (U:Blk w g t cs) (B:List Value) (q:Nat) (hq:B.length=q) (hn:q=Nat.min E I)
  (ab:0<B.length→V=some ⟨g,D,none⟩∧ ∃L,M=some L∧ ∀j v,B[j]? =some v→w.cell? (L.add j)=some v)
  (ae:D+B.length≤cs.length) (h1: ∀v∈B,v.oneCell'=true)
  (h: ∀w',Blk w' g t (splice cs D B)→w.grownBy w' (some g)→K (a.put o.dst (goInt q)) w'):o.wp P a w K Q:=by
 subst hq
 by_cases h0:B.length=0
 ·obtain rfl:B=[]:=ea h0
  have R:=run_copy_none (P:=P) w G N o.type F V M I W E O X Y (by simpa using hn.symm)
  unfold Oper.wp
  simp[execOp,ho,resolve,invoke,builtin,hd,Z,R,Result.andThen]
  exact h w (by simpa[splice]using U) (ov _ _)
 ·obtain⟨rfl,L,rfl,aa⟩:=ab (by omega)
  have R:=run_copy_row (P:=P) w G N o.type F g D I W L E O cs.toArray t B X Y U hn aa (by simpa using ae) h1
  unfold Oper.wp
  simp[execOp,ho,resolve,invoke,builtin,hd,Z,R,Result.andThen]
  refine h _ ?_ ⟨rfl,rfl,rfl,by simp[World.setRow],fun k _ hk=>setRow_other w g k _ (fun e=>hk (by simp[e]))⟩
  have:=setRow_heap w g cs.toArray (cs.take D++(B++cs.drop (D+B.length))).toArray t (0,0) U
  simpa[splice,Blk]using this
theorem Ob (ab:o.guard=none) (R:Option Tmp) (af:o.dst=R) (d s:Operand) (L N:TypeId)
  (ho:o.op= .call {callee:= .builtin .copy,args:= #[d,s],argTypes:= #[L,N]}) (G:TypeId) (W:P.underlying L=some (.slice G)) (X:(P.info? G).map (·.size)=some 1)
  (I E:Option Addr) (M U F O:Nat) (hd:a.eval d= .slice I M U) (Y:a.eval s= .slice E F O)
  (g D:Nat) (t:TypeId) (cs:List Value) (hb:Blk w g t cs) (B:List Value) (q:Nat) (Z:B.length=q) (hn:q=Nat.min F M)
  (aa:0<B.length→I=some ⟨g,D,none⟩∧ ∃V,E=some V∧ ∀j v,B[j]? =some v→w.cell? (V.add j)=some v)
  (ae:D+B.length≤cs.length) (h1: ∀v∈B,v.oneCell'=true)
  (h: ∀w',Blk w' g t (splice cs D B)→w.grownBy w' (some g)→wpList P ops Q rest (a.put R (goInt q)) w'):wpList P ops Q (o::rest) a w:=by
 subst af
 exact km ab fun K hK=>MZ d s L N ho G W X I E M U F O hd Y g D t cs hb B q Z hn aa ae h1 fun w' h2 h3=>hK _ _ (h w' h2 h3)
theorem Kh {K:Act→World→Prop} {E:Prop} (ab:o.guard=none) (d s:Operand) (M O:TypeId)
  (ho:o.op= .call {callee:= .builtin .copy,args:= #[d,s],argTypes:= #[M,O]}) (I:TypeId) (X:P.underlying M=some (.slice I)) (Y:(P.info? I).map (·.size)=some 1)
  (L F:Option Addr) (N U G R:Nat) (hd:a.eval d= .slice L N U) (Z:a.eval s= .slice F G R)
  (g D:Nat) (t:TypeId) (cs:List Value) (hb:Blk w g t cs) (B:List Value) (q:Nat) (hq:B.length=q) (hn:q=Nat.min G N)
  (aa:0<B.length→L=some ⟨g,D,none⟩∧ ∃V,F=some V∧ ∀j v,B[j]? =some v→w.cell? (V.add j)=some v)
  (ae:D+B.length≤cs.length) (h1: ∀v∈B,v.oneCell'=true)
  (h: ∀w',Blk w' g t (splice cs D B)→w.grownBy w' (some g)→K (a.put o.dst (goInt q)) w'):
  if Region.wanted o (yielded ops a.tmps)=true then Oper.wp P o a w K Q else E:=by
 have W:Region.wanted o (yielded ops a.tmps)=true:=by simp[Region.wanted,ab]
 rw[dP W]
 exact MZ d s M O ho I X Y L F N U G R hd Z g D t cs hb B q hq hn aa ae h1 h
end
theorem Np {P:Program} (t e:TypeId) (n:Nat) (q:P.underlying t=some (.array n e)) (D:(P.info? e).map (·.size)=some 1) (g o l:Nat) (G:l<n) (k:IntKind) (w:World):
  (Instr.sliceAt t (.pointer (some ⟨g,o,none⟩)) (some (.int k (l:Int))) none none).run P w= .ok (.slice (some ⟨g,o+l,none⟩) (n-l) (n-l)) w:=by
 have E:P.elem t=e:=by simp[Program.elem,q]
 have B:P.arrayLen t=n:=by simp[Program.arrayLen,q]
 rw[run_sliceAt_array_l w t ⟨g,o,none⟩ (by rw[E,B];exact q) k l (by omega) (by rw[B];omega),E,B]
 cases hq:P.info? e with
 |none=>simp[hq]at D
 |some inf=>
  have F:inf.size=1:=by simpa[hq]using D
  simp[sizeOf,typeInfo,hq,F,slicedAt,eW]
  omega
theorem LG {P:Program} (t e:TypeId) (n:Nat) (q:P.underlying t=some (.array n e)) (D:(P.info? e).map (·.size)=some 1) (g o h:Nat) (_hn:0<n) (G:h≤n) (k:IntKind) (w:World):
  (Instr.sliceAt t (.pointer (some ⟨g,o,none⟩)) none (some (.int k (h:Int))) none).run P w= .ok (.slice (some ⟨g,o,none⟩) h n) w:=by
 have E:P.elem t=e:=by simp[Program.elem,q]
 have B:P.arrayLen t=n:=by simp[Program.arrayLen,q]
 rw[run_sliceAt_array_h w t ⟨g,o,none⟩ (by rw[E,B];exact q) k h (by omega) (by rw[B];omega),E,B]
 cases hq:P.info? e with
 |none=>simp[hq]at D
 |some inf=>
  have F:inf.size=1:=by simpa[hq]using D
  simp[sizeOf,typeInfo,hq,F,slicedAt,eW]
theorem FF {P:Program} (t e:TypeId) (n:Nat) (q:P.underlying t=some (.array n e)) (B:(P.info? e).map (·.size)=some 1) (g o:Nat) (_hn:0<n) (w:World):
  (Instr.sliceAt t (.pointer (some ⟨g,o,none⟩)) none none none).run P w= .ok (.slice (some ⟨g,o,none⟩) n n) w:=by
 have E:P.elem t=e:=by simp[Program.elem,q]
 have D:P.arrayLen t=n:=by simp[Program.arrayLen,q]
 rw[run_sliceAt_array_all w t ⟨g,o,none⟩ (by rw[E,D];exact q),E,D]
 cases hq:P.info? e with
 |none=>simp[hq]at B
 |some inf=>
  have F:inf.size=1:=by simpa[hq]using B
  simp[sizeOf,typeInfo,hq,F,slicedAt,eW]
theorem Nq {P:Program} (t e:TypeId) (q:P.underlying t=some (.slice e)) (D:(P.info? e).map (·.size)=some 1) (A:Option Addr) (n c l:Nat) (F:l≤n) (k:IntKind) (w:World):
  (Instr.sliceAt t (.slice A n c) (some (.int k (l:Int))) none none).run P w= .ok (.slice (if c=l then A else A.map (·.add l)) (n-l) (c-l)) w:=by
 have B:P.elem t=e:=by simp[Program.elem,q]
 rw[run_sliceAt_slice (P:=P) w t _ _ _ _ (by rw[B];exact q),run_slice_l w t A n c (by rw[B];exact q) k l (by omega) (by omega),B]
 cases hq:P.info? e with
 |none=>simp[hq]at D
 |some inf=>
  have E:inf.size=1:=by simpa[hq]using D
  simp[sizeOf,typeInfo,hq,E,sliced]
def Src (w:World) (g:Nat) (A:Option Addr) (xs:List Int):Prop:=
 0<xs.length→ ∃b o,A=some ⟨b,o,none⟩∧b≠g∧b<w.heap.size∧ ∀j v,(c_ .u8 xs)[j]? =some v→w.cell? ⟨b,o+j,none⟩=some v
theorem Src.grown {w w':World} {g:Nat} {A:Option Addr} {xs:List Int} (h:Src w g A xs) {row:Option Nat} (D:w.grownBy w' row) (F:row=none∨row=some g):Src w' g A xs:=fun G=>by
 obtain⟨b,o,e,q,B,I⟩:=h G
 refine⟨b,o,e,q,dX B D.size,fun j v E=> ?_⟩
 rw[jC (w:=w) (D.block b B (by rcases F with rfl|rfl<;>simp[q]))]
 exact I j v E
theorem Src.below {w w':World} {g:Nat} {A:Option Addr} {xs:List Int} (h:Src w g A xs) (q:Below w.heap.size w w'):Src w' g A xs:=h.grown (od q none) (.inl rfl)
theorem Src.drop {w:World} {g:Nat} {A:Option Addr} {xs:List Int} (h:Src w g A xs) (k:Nat):Src w g (A.map (·.add k)) (xs.drop k):=fun B=>by
 simp only[eq]at B
 obtain⟨b,o,rfl,D,E,F⟩:=h (by omega)
 refine⟨b,o+k,by simp[eW],D,E,fun j v q=> ?_⟩
 have:=F (k+j) v (by simpa[c_,jo]using q)
 rwa [←ln]at this
theorem Src.nil (w:World) (g:Nat) (A:Option Addr):Src w g A []:=fun h=>absurd h (by simp)
theorem Src.blk {w:World} {g b o:Nat} {t:TypeId} {cs:List Value} (h:Blk w b t cs) (D:b≠g) {xs:List Int} (q: ∀j v,(c_ .u8 xs)[j]? =some v→cs[o+j]? =some v):Src w g (some ⟨b,o,none⟩) xs:=
 fun _=>⟨b,o,rfl,D,h.lt,fun j v B=>(h.cell _).trans (q j v B)⟩
theorem Src.src {w:World} {g:Nat} {A:Option Addr} {xs:List Int} (h:Src w g A xs) (k:Nat):0<(c_ .u8 (xs.take k)).length→ ∃B,A=some B∧ ∀j v,(c_ .u8 (xs.take k))[j]? =some v→w.cell? (B.add j)=some v:=fun D=>by
 simp only[b_,ep]at D
 obtain⟨b,o,rfl,_,_,F⟩:=h (by omega)
 refine⟨_,rfl,fun j v q=> ?_⟩
 rw[eW]
 refine F j v ?_
 have E:=(eP.1 q).1
 simp only[b_,ep]at E
 simp only[c_,j3,gI]at q
 rw[dP (by omega)]at q
 exact q
def Bytes (l:List Int):Prop:= ∀i,0≤l.getD i 0∧l.getD i 0≤255
theorem Bytes.mem {l:List Int} (h:Bytes l) {x:Int} (q:x∈l):0≤x∧x≤255:=by
 obtain⟨i,hi,rfl⟩:=i7.1 q
 have:=h i
 simpa[hi]using this
theorem Bytes.of_mem {l:List Int} (h: ∀x∈l,0≤x∧x≤255):Bytes l:=fun i=>by
 rw[dR]
 rcases eX i l.length with hi|hi
 ·rw[dZ hi];exact h _ (fe hi)
 ·rw[fJ hi];decide
theorem Bytes.append {l m:List Int} (h:Bytes l) (k:Bytes m):Bytes (l++m):= .of_mem fun x q=>by
 rcases fA.1 q with q|q
 ·exact h.mem q
 ·exact k.mem q
theorem Bytes.take {l:List Int} (h:Bytes l) (n:Nat):Bytes (l.take n):= .of_mem fun _ q=>h.mem (List.mem_of_mem_take q)
theorem Bytes.drop {l:List Int} (h:Bytes l) (n:Nat):Bytes (l.drop n):= .of_mem fun _ q=>h.mem (List.mem_of_mem_drop q)
theorem Bytes.right {l m:List Int} (h:Bytes (l++m)):Bytes m:= .of_mem fun _ q=>h.mem (List.mem_append_right _ q)
theorem Bytes.splice {l m:List Int} (h:Bytes l) (k:Bytes m) (n:Nat):Bytes (splice l n m):=(h.take _).append (k.append (h.drop _))
def Lies (w:World) (A:Option Addr) (xs:List Int):Prop:=Src w w.heap.size A xs
theorem Lies.src {w:World} {A:Option Addr} {xs:List Int} (h:Lies w A xs) {g:Nat} (E:w.heap.size≤g):Src w g A xs:=fun q=>by
 obtain⟨b,o,e,_,B,D⟩:=h q
 exact⟨b,o,e,by omega,B,D⟩
theorem Lies.of {w:World} {A:Option Addr} {xs:List Int} {g:Nat} (h:Src w g A xs):Lies w A xs:=fun q=>by
 obtain⟨b,o,e,_,B,D⟩:=h q
 exact⟨b,o,e,by omega,B,D⟩
theorem Lies.below {w w':World} {A:Option Addr} {xs:List Int} (h:Lies w A xs) (q:Below w.heap.size w w'):Lies w' A xs:=Lies.of (Src.below h q)
theorem Lies.blk {w:World} {b o:Nat} {t:TypeId} {cs:List Value} (h:Blk w b t cs) {xs:List Int} (q: ∀j v,(c_ .u8 xs)[j]? =some v→cs[o+j]? =some v):Lies w (some ⟨b,o,none⟩) xs:=
 Src.blk h (by have:=h.lt;omega) q
theorem Lies.whole {w:World} {b:Nat} {t:TypeId} {xs:List Int} (h:Blk w b t (c_ .u8 xs)):Lies w (some ⟨b,0,none⟩) xs:=Lies.blk h (by simp)
theorem Lies.lit (w:World) (C:List Int) (t:TypeId) (fr:Nat×Nat):Lies (w.alloc (.cells (c_ .u8 C).toArray t fr)) (some ⟨w.heap.size,0,none⟩) C:=fun _=>
 ⟨w.heap.size,0,rfl,by simp,by simp,fun j v q=>by
  rw[ki _ _ _ _ t fr (eC w _),eL]
  simpa using q⟩
theorem nO (w:World) (o:Obj):Below w.heap.size w (w.alloc o):=(dU _ w).alloc (dQ _) _
theorem DB {w w':World} {a b:Obj} (h:Below ((w.alloc a).alloc b).heap.size ((w.alloc a).alloc b) w'):Below w.heap.size w w':=by
 have h1:=(nO w a).trans ((nO (w.alloc a) b).mono (nO w a).size)
 exact h1.trans (h.mono h1.size)
def a_ (s:ByteArray):List Int:=s.data.toList.map fun b=>(b.toNat:Int)
theorem j_ (s:ByteArray):(a_ s).length=s.size:=by simp[a_]
theorem pM (s:ByteArray):Bytes (a_ s):= .of_mem fun x q=>by
 obtain⟨b,_,rfl⟩:=jN.1 q
 have:=b.toNat_lt
 omega
theorem qy {a b:ByteArray} (h:a_ a=a_ b):a=b:=by
 have:a.data.toList=b.data.toList:=by
  refine(List.map_inj_right (f:=fun b:UInt8=>(b.toNat:Int)) ?_).1 h
  intro x y q
  exact lA.1 (by omega)
 cases a;cases b
 congr 1
 exact mu.1 this
theorem Ld (w:World) (e:TypeId) (s:ByteArray):Below w.heap.size w (Lib.bytesWorld w e s):=
 ⟨rfl,rfl,rfl,by rw[lF];omega,fun k q=>Lib.bytesWorld_at_old w e s k q⟩
theorem q9 (w:World) (e:TypeId) (s:ByteArray):Lies (Lib.bytesWorld w e s) (some ⟨w.heap.size,0,none⟩) (a_ s):=fun _=>
 ⟨w.heap.size,0,rfl,by rw[lF];omega,by rw[lF];omega,fun j v B=>by
  have q:j<s.size:=by
   have:=(eP.1 B).1
   rw[b_,j_]at this;exact this
  rw[eL,Lib.bytesWorld_cell w e s j q,←B]
  have D:j<s.data.toList.length:=by simpa using q
  simp[c_,a_,List.getD,q]⟩
section
variable {P:Program} {w:World} {ops:Array Oper} {rest:List Oper} {o:Oper} {a:Act} {Q:Exit→Act→World→Prop}
theorem Hr (F:o.guard=none) (d:Option Tmp) (I:o.dst=d) (src q e:TypeId) (x:Operand) (E:o.op= .convert src q x) (s:ByteArray) (B:a.eval x= .string s)
  {u:TypeDesc} (D:P.underlying src=some u) (L:P.underlying q=some (.slice e)) (G:P.underlying e=some (.int .u8))
  (h: ∀A c w',Lies w' A (a_ s)→s.size≤c→Below w.heap.size w w'→wpList P ops Q rest (a.put d (.slice A s.size c)) w'):wpList P ops Q (o::rest) a w:=by
 subst I
 refine km F fun K M=> ?_
 unfold Oper.wp execOp
 simp only[E,B,fF,lD w src q e s D L G,jb]
 exact M _ _ (h _ _ _ (q9 w e s) (grownCap_ge w s.size 0 e) (Ld w e s))
end
theorem BG (s t:ByteArray):(s.toList==t.toList)=decide (s=t):=by
 rw[iA,gm,eb]
 constructor
 ·intro h
  rw[eT,eT]at h
  cases s;cases t
  congr 1
  exact mu.1 h
 ·rintro rfl;rfl
theorem tg {k:IntKind} {a b:Int} (h:a=b):Ending.returned (.int k a)= .returned (.int k b):=by rw[h]
theorem nc {w:World} {a:Addr} {v:Value} (h:w.cell? a=some v):a.block<w.heap.size:=by
 rcases eX a.block w.heap.size with h'|h'
 ·exact h'
 ·simp[World.cell?,jY h']at h
def pS (l:List Int):List UInt8:=l.map fun x=>UInt8.ofNat x.toNat
def toS (l:List Int):ByteArray:=⟨(pS l).toArray⟩
theorem Jt {x:Int} (h:0≤x∧x≤255):((UInt8.ofNat x.toNat).toNat:Int)=x:=by
 rw[UInt8.toNat_ofNat'];omega
theorem th {l:List Int} (h:Bytes l):a_ (toS l)=l:=by
 simp only[a_,toS,pS,jV]
 conv=>rhs;rw[←List.map_id l]
 refine jF fun x q=> ?_
 exact Jt (h.mem q)
theorem KF (s:ByteArray):toS (a_ s)=s:=qy (th (pM s))
theorem qc (l:List Int):(toS l).size=l.length:=by
 show(pS l).toArray.size=_
 simp[pS]
theorem Iw (a b:ByteArray):a_ (a++b)=a_ a++a_ b:=by
 simp only[a_,ByteArray.data_append,Array.toList_append,gl]
theorem J3 {l m:List Int} (B:Bytes l) (q:Bytes m):toS l++toS m=toS (l++m):=qy (by rw[Iw,th B,th q,th (B.append q)])
theorem pF (s:ByteArray) (a b:Nat):a_ (s.extract a b)=((a_ s).take b).drop a:=by
 simp only[a_,ByteArray.data_extract,Array.toList_extract,List.extract_eq_take_drop,j3,List.map_drop,kh]
theorem o_ (s:ByteArray) (k:Nat) (h:k<s.size):(a_ s).getD k 0=(s[k].toNat:Int):=by
 have q:k<s.data.toList.length:=by simpa using h
 rw[dR,a_,ka,dZ q]
 simp
 rfl
theorem Dl {s:ByteArray} {l:List Int} (q:Bytes l):s=toS l↔a_ s=l:=
 ⟨fun h=>by rw[h,th q],fun h=>by rw[←h,KF]⟩
theorem rF {w:World} {base:Nat} {e:TypeId} {size:Nat} {v:Value} {n:Nat} {xs:List Value} (h:w.ownsRow base e size v n xs): ∀g,v.ownBlock=some g→base≤g:=fun g q=>by
 rcases h.2 with⟨rfl,_⟩|⟨B,F,E,rfl,D,_⟩
 ·simp[Value.ownBlock]at q
 ·have:B=g:=by simpa[Value.ownBlock]using q
  omega
theorem H9 {w:World} {B e:Nat} {v:Value} {n:Nat} {xs:List Int} (h:w.ownsRow B e 1 v n (c_ .u8 xs)) (D:xs.length=n): ∃A c,v= .slice A n c∧n≤c∧Lies w A xs:=by
 have h0:=h
 rcases h.2 with⟨rfl,rfl⟩|⟨g,G,O,rfl,N,M,E,L,_⟩
 ·exact⟨none,0,rfl,dQ _,fun I=>by omega⟩
 ·refine⟨_,G,rfl,E,fun _=>⟨g,0,rfl,?_,?_,fun j v q=> ?_⟩⟩
  ·have:=(h0.lt g rfl).2;omega
  ·exact(h0.lt g rfl).2
  ·have F:=(eP.1 q).1
   rw[b_,D]at F
   rw[eL,h0.cellAt j (by omega)]
   exact q
theorem zK (A:Option Addr) (xs:List Int) (n c:Nat) (w:World) (D:xs.length=n) (B:Lies w A xs):
  (convert 46 9 (.slice A n c)).run prog w= .ok (.string (toS xs)) w:=by
 rw[run_convert_bytes_string w _ _ 5 _ _ _ ee fc ew]
 cases A with
 |none=>
  have:xs=[]:=by
   rcases xs with _|⟨x,r⟩
   ·rfl
   ·obtain⟨b,o,h,_⟩:=B (by simp)
    cases h
  subst this
  rfl
 |some ad=>
  have G: ∀j u,(c_ .u8 xs)[j]? =some u→w.cell? (ad.add j)=some u:=fun j u q=>by
   have F:=(eP.1 q).1
   rw[b_]at F
   obtain⟨b,o,h,_,_,I⟩:=B (by omega)
   injection h with h
   subst h
   rw[eW]
   exact I j u q
  have E:(loadCells ad n).run prog w= .ok (c_ .u8 xs).toArray w:=by
   have:=run_loadCells_list (P:=prog) w ad (c_ .u8 xs) G
   rw[b_,D]at this;exact this
  rw[run_bytesToString w _ _ _ xs E,foldl_push_bytes,show ByteArray.empty.data= #[]from rfl,Array.empty_append]
  rfl
section
variable {P:Program} {w:World} {ops:Array Oper} {rest:List Oper} {o:Oper} {a:Act} {Q:Exit→Act→World→Prop}
end
theorem Lies.take {w:World} {A:Option Addr} {xs:List Int} (h:Lies w A xs) (n:Nat):Lies w A (xs.take n):=fun B=>by
 simp only[ep]at B
 obtain⟨b,o,e,h1,F,E⟩:=h (by omega)
 refine⟨b,o,e,h1,F,fun j v q=>E j v ?_⟩
 have D:=(eP.1 q).1
 simp only[b_,ep]at D
 simp only[c_,j3,gI]at q
 rw[dP (by omega)]at q
 exact q
theorem Kb (x:Int) (k:Nat) (B:k≤62) (h0:0≤x) (h1:x<9223372036854775808):bits .and .i64 x (2^k-1)=x%2^k:=by
 obtain⟨a,rfl⟩:=gv h0
 have I:2^k≤2^62:=lw (by decide) B
 have q:0<2^k:=Nat.two_pow_pos k
 have G:((2:Int)^k-1)=((2^k-1:Nat):Int):=by rw[Int.ofNat_sub q];simp
 have h:(BitVec.ofInt 64 (a:Int)&&& BitVec.ofInt 64 ((2^k-1:Nat):Int)).toNat=a%2^k:=by
  rw[BitVec.toNat_and,iU,iU]
  have F:((a:Int)%(2^64:Nat)).toNat=a:=by omega
  have E:(((2^k-1:Nat):Int)%(2^64:Nat)).toNat=2^k-1:=by omega
  rw[F,E,k9]
 rw[G]
 show IntKind.i64.wrap ((BitVec.ofInt 64 (a:Int)&&& BitVec.ofInt 64 ((2^k-1:Nat):Int)).toNat:Int)=_
 rw[h,es]
 have:a%2^k<2^k:=Nat.mod_lt _ q
 have D:((a:Int)%2^k)=((a%2^k:Nat):Int):=by simp
 rw[D]
 omega
theorem Gn (x y:Nat) (q:x<9223372036854775808) (hy:y<9223372036854775808):bits .or .i64 (x:Int) (y:Int)=((x|||y:Nat):Int):=by
 have h:(BitVec.ofInt 64 (x:Int)|||BitVec.ofInt 64 (y:Int)).toNat=x|||y:=by
  rw[mM,iU,iU]
  congr 1<;>omega
 have B:x|||y<2^63:=Nat.or_lt_two_pow (by omega) (by omega)
 show IntKind.i64.wrap ((BitVec.ofInt 64 (x:Int)|||BitVec.ofInt 64 (y:Int)).toNat:Int)=_
 rw[h,es]
 omega
theorem G8 (hi lo:Int) (k:Nat) (h0:0≤lo) (h1:lo<2^k) (D:0≤hi) (q:hi*2^k+lo<9223372036854775808):bits .or .i64 (hi*2^k) lo=hi*2^k+lo:=by
 obtain⟨a,rfl⟩:=gv h0
 obtain⟨b,rfl⟩:=gv D
 have B:a<2^k:=by
  have e:((2:Int)^k)=((2^k:Nat):Int):=by simp
  rw[e]at h1
  exact mI.1 h1
 have e:((b:Int)*2^k)=((b*2^k:Nat):Int):=by simp
 have E:b*2^k+a<9223372036854775808:=by
  rw[e,←lB]at q
  exact mI.1 q
 rw[e,Gn (b*2^k) a (by omega) (by omega),←jH,←jM B b,jH]
 simp
def i_ (n:Int):List Int:=
 if n<0∨1114111<n∨(55296≤n∧n≤57343)then[]else if n<128 then[n]else if n<2048 then[192+n/64,128+n%64]
 else if n<65536 then[224+n/4096,128+n/64%64,128+n%64]else[240+n/262144,128+n/4096%64,128+n/64%64,128+n%64]
def oy (c:Int):Nat:=if 240≤c then 4 else if 224≤c then 3 else if 192≤c then 2 else 1
def sZ (k:Nat):Int:=if k=4 then 240 else if k=3 then 224 else if k=2 then 192 else 0
def nS (c0:Int) (l:List Int):Nat→Int
 |0=>c0
 |i+1=>nS c0 l i*64+l.getD (i+1) 0%64
def pG (l:List Int):Int:=nS (l.getD 0 0-sZ (oy (l.getD 0 0))) l (oy (l.getD 0 0)-1)
def nd (l:List Int):Int×Nat:=
 if l.length=0 then(-1,0)else if l.length<oy (l.getD 0 0)then(-1,1)
 else if i_ (pG l)=l.take (oy (l.getD 0 0))then(pG l,oy (l.getD 0 0))else(-1,1)
theorem Ig (c:Int):1≤oy c∧oy c≤4:=by unfold oy;split<;>(try split)<;>(try split)<;>omega
theorem Ii {n:Int} (h:n<0∨1114111<n∨(55296≤n∧n≤57343)):i_ n=[]:=dP h
theorem G_ {n:Int} (h:0≤n) (h1:n<128):i_ n=[n]:=by unfold i_;rw[dN (by omega),dP h1]
theorem Jv {n:Int} (h:128≤n) (h1:n<2048):i_ n=[192+n/64,128+n%64]:=by unfold i_;rw[dN (by omega),dN (by omega),dP h1]
theorem Ik {n:Int} (h:2048≤n) (h1:n<65536) (q:n<55296∨57343<n):i_ n=[224+n/4096,128+n/64%64,128+n%64]:=by unfold i_;rw[dN (by omega),dN (by omega),dN (by omega),dP h1]
theorem JS {n:Int} (h:65536≤n) (h1:n≤1114111):i_ n=[240+n/262144,128+n/4096%64,128+n/64%64,128+n%64]:=by unfold i_;rw[dN (by omega),dN (by omega),dN (by omega),dN (by omega)]
theorem FB (n:Int):(i_ n=[]∧(n<0∨1114111<n∨(55296≤n∧n≤57343)))∨(0≤n∧n<128∧i_ n=[n])∨(128≤n∧n<2048∧i_ n=[192+n/64,128+n%64])
  ∨(2048≤n∧n<65536∧(n<55296∨57343<n)∧i_ n=[224+n/4096,128+n/64%64,128+n%64])∨(65536≤n∧n≤1114111∧i_ n=[240+n/262144,128+n/4096%64,128+n/64%64,128+n%64]):=by
 by_cases h0:n<0∨1114111<n∨(55296≤n∧n≤57343)
 ·exact .inl ⟨Ii h0,h0⟩
 ·by_cases h1:n<128
  ·exact .inr (.inl ⟨by omega,h1,G_ (by omega) h1⟩)
  ·by_cases B:n<2048
   ·exact .inr (.inr (.inl ⟨by omega,B,Jv (by omega) B⟩))
   ·by_cases q:n<65536
    ·exact .inr (.inr (.inr (.inl ⟨by omega,q,by omega,Ik (by omega) q (by omega)⟩)))
    ·exact .inr (.inr (.inr (.inr ⟨by omega,by omega,JS (by omega) (by omega)⟩)))
theorem BF (n:Int):(i_ n).length≤4:=by
 rcases FB n with⟨h,_⟩|⟨_,_,h⟩|⟨_,_,h⟩|⟨_,_,_,h⟩|⟨_,_,h⟩<;>rw[h]<;>simp
theorem F_ (n:Int):Bytes (i_ n):= .of_mem fun x q=>by
 rcases FB n with⟨h,_⟩|⟨_,_,h⟩|⟨_,_,h⟩|⟨_,_,_,h⟩|⟨_,_,h⟩<;>rw[h]at q<;>simp at q<;>omega
theorem KS {n c:Int} {r:List Int} (h:i_ n=c::r):oy c=(i_ n).length∧c-sZ (oy c)=c%(if oy c=1 then 256 else if oy c=2 then 32 else if oy c=3 then 16 else 8):=by
 rcases FB n with⟨q,_⟩|⟨_,_,q⟩|⟨_,_,q⟩|⟨_,_,_,q⟩|⟨_,_,q⟩<;>rw[q]at h
 ·cases h
 all_goals
  obtain⟨h1,B⟩:=List.cons.inj h
  rw[q]
 ·have:oy c=1:=by unfold oy;rw[dN (by omega),dN (by omega),dN (by omega)]
  rw[this];refine⟨rfl,?_⟩;show c-0=c%256;omega
 ·have:oy c=2:=by unfold oy;rw[dN (by omega),dN (by omega),dP (by omega)]
  rw[this];refine⟨rfl,?_⟩;show c-192=c%32;omega
 ·have:oy c=3:=by unfold oy;rw[dN (by omega),dP (by omega)]
  rw[this];refine⟨rfl,?_⟩;show c-224=c%16;omega
 ·have:oy c=4:=by unfold oy;rw[dP (by omega)]
  rw[this];refine⟨rfl,?_⟩;show c-240=c%8;omega
theorem Dx {n:Int} (h:i_ n≠[]) (s:List Int):pG (i_ n++s)=n:=by
 rcases FB n with⟨q,_⟩|⟨_,_,q⟩|⟨_,_,q⟩|⟨_,_,_,q⟩|⟨_,_,q⟩
 ·exact absurd q h
 all_goals
  have B:=(KS q).1
  rw[q]at B
  simp only[eu,fO,eL,Nat.reduceAdd]at B
  rw[q]
  simp only[pG,ff,fs,eA,B,sZ,Nat.reduceSub,nS,fy]
  simp
  try omega
theorem xB {n:Int} (h:i_ n≠[]) (s:List Int):nd (i_ n++s)=(n,(i_ n).length):=by
 obtain⟨c,r,B⟩:=List.exists_cons_of_ne_nil h
 have q:=(KS B).1
 have h0:(i_ n++s).getD 0 0=c:=by rw[B];rfl
 have D:(i_ n).length≠0:=by simpa using h
 unfold nd
 rw[h0,dN (by rw[dS];omega),dN (by rw[dS,q];omega),Dx h,q,dP (by simp)]
theorem Lf {l:List Int} {n:Int} (h:i_ n≠[]) (B:i_ n=l.take (i_ n).length):nd l=(n,(i_ n).length):=by
 have:=xB h (l.drop (i_ n).length)
 have e:i_ n++l.drop (i_ n).length=l:=by
  have q:=gu (i_ n).length l
  rw[←B]at q
  exact q
 rwa [e]at this
theorem Kx (l:List Int):(nd l=(-1,0)∧l=[])∨(nd l=(-1,1)∧l≠[])∨
  (nd l=(pG l,oy (l.getD 0 0))∧oy (l.getD 0 0)≤l.length∧i_ (pG l)=l.take (oy (l.getD 0 0))∧(i_ (pG l)).length=oy (l.getD 0 0)∧0≤pG l):=by
 by_cases h0:l.length=0
 ·exact .inl ⟨by unfold nd;rw[dP h0],ea h0⟩
 ·have B:l≠[]:=fun e=>h0 (by rw[e];rfl)
  by_cases h1:l.length<oy (l.getD 0 0)
  ·exact .inr (.inl ⟨by unfold nd;rw[dN h0,dP h1],B⟩)
  ·by_cases q:i_ (pG l)=l.take (oy (l.getD 0 0))
   ·have D:(i_ (pG l)).length=oy (l.getD 0 0):=by rw[q,ep];omega
    refine .inr (.inr ⟨by unfold nd;rw[dN h0,dN h1,dP q],by omega,q,D,?_⟩)
    rcases mH (pG l) 0 with hn|hn
    ·rw[Ii (.inl hn),fO]at D
     have:=Ig (l.getD 0 0)
     omega
    ·exact hn
   ·exact .inr (.inl ⟨by unfold nd;rw[dN h0,dN h1,dN q],B⟩)
theorem CO (l:List Int): -1≤(nd l).1∧(nd l).1≤1114111∧(nd l).2≤4∧(nd l).2≤l.length:=by
 rcases Kx l with⟨h,e⟩|⟨h,e⟩|⟨h,h1,E,B,D⟩
 ·rw[h];simp
 ·rw[h]
  have:l.length≠0:=fun h=>e (ea h)
  refine⟨?_,?_,?_,?_⟩<;>simp<;>omega
 ·rw[h]
  have q:=Ig (l.getD 0 0)
  refine⟨by show-1≤pG l;omega,?_,q.2,h1⟩
  show pG l≤1114111
  rcases mH 1114111 (pG l)with hn|hn
  ·rw[Ii (.inr (.inl hn)),fO]at B
   omega
  ·exact hn
theorem yK {l:List Int} (h:(nd l).1≠ -1):i_ (nd l).1=l.take (nd l).2∧(i_ (nd l).1).length=(nd l).2∧1≤(nd l).2∧(nd l).2≤l.length∧(nd l).2≤4∧0≤(nd l).1∧i_ (nd l).1≠[]:=by
 rcases Kx l with⟨e,_⟩|⟨e,_⟩|⟨e,h1,F,D,E⟩
 ·rw[e]at h;exact absurd rfl h
 ·rw[e]at h;exact absurd rfl h
 ·have q:=Ig (l.getD 0 0)
  rw[e]
  refine⟨F,D,q.1,h1,q.2,E,fun B=> ?_⟩
  simp only at B
  rw[B,fO]at D
  omega
def qs (l:List Int) (k:Nat):Int:=nS (l.getD 0 0%(if k=1 then 256 else if k=2 then 32 else if k=3 then 16 else 8)) l (k-1)
theorem EB {l:List Int} {k:Nat} (D:1≤k) (B:k≤l.length) (h:i_ (qs l k)=l.take k):nd l=(qs l k,k):=by
 have q:(i_ (qs l k)).length=k:=by rw[h,ep];omega
 have:=Lf (l:=l) (n:=qs l k) (fun e=>by rw[e]at q;simp at q;omega) (by rw[q];exact h)
 rwa [q]at this
theorem Cq {l:List Int} (D:l≠[]) (h: ∀k,1≤k→k≤4→k≤l.length→ ¬i_ (qs l k)=l.take k):nd l=(-1,1):=by
 rcases Kx l with⟨_,e⟩|⟨e,_⟩|⟨e,h1,F,M,N⟩
 ·exact absurd e D
 ·exact e
 ·exfalso
  have B:=Ig (l.getD 0 0)
  refine h _ B.1 B.2 h1 ?_
  obtain⟨c,r,q⟩:=List.exists_cons_of_ne_nil (l:=i_ (pG l)) (fun e=>by rw[e,fO]at M;omega)
  have I:c=l.getD 0 0:=by
   rw[F]at q
   cases l with
   |nil=>exact absurd rfl D
   |cons a t=>
    obtain⟨k,G⟩: ∃k,oy ((a::t).getD 0 0)=k+1:=⟨oy ((a::t).getD 0 0)-1,by omega⟩
    rw[G,io]at q
    injection q with L _
    rw[←L];rfl
  have E:=(KS q).2
  rw[I]at E
  have:qs l (oy (l.getD 0 0))=pG l:=by
   unfold qs pG
   rw[E]
  rw[this];exact F
def vz (l:List Int):Nat→Nat
 |0=>0
 |fuel+1=>if(nd l).1= -1 then 0 else(nd l).2+vz (l.drop (nd l).2) fuel
theorem ro: ∀(f g:Nat) (l:List Int),l.length≤f→l.length≤g→vz l f=vz l g
 |0,0,_,_,_=>rfl
 |0,g+1,l,h,_=>by
  obtain rfl:=ea (mi.1 h)
  rfl
 |f+1,0,l,_,h=>by
  obtain rfl:=ea (mi.1 h)
  rfl
 |f+1,g+1,l,hf,hg=>by
  rw[vz,vz]
  split
  ·rfl
  ·rename_i h
   have:=yK h
   rw[ro f g _ (by rw[eq];omega) (by rw[eq];omega)]
def na (l:List Int):Nat:=vz l l.length
theorem JJ {l:List Int} (h:(nd l).1= -1):na l=0:=by
 unfold na
 cases hl:l.length with
 |zero=>rfl
 |succ k=>rw[vz,dP h]
theorem G6 {l:List Int} (h:(nd l).1≠ -1):na l=(nd l).2+na (l.drop (nd l).2):=by
 have:=yK h
 unfold na
 cases hl:l.length with
 |zero=>omega
 |succ k=>
  rw[vz,dN h,ro k _ (l.drop (nd l).2) (by rw[eq];omega) (dQ _)]
theorem zv: ∀(n:Nat) (l:List Int),l.length≤n→na l≤l.length
 |0,l,h=>by
  obtain rfl:=ea (mi.1 h)
  exact dQ _
 |n+1,l,hl=>by
  by_cases h:(nd l).1= -1
  ·rw[JJ h];omega
  ·have q:=yK h
   have:=zv n (l.drop (nd l).2) (by rw[eq];omega)
   rw[eq]at this
   rw[G6 h];omega
theorem vQ (l:List Int):na l≤l.length:=zv _ l (dQ _)
theorem Bp {l:List Int} {q:Nat} (h:na l=q+na (l.drop q)) (B:(nd (l.drop q)).1≠ -1):
  na l=(q+(nd (l.drop q)).2)+na (l.drop (q+(nd (l.drop q)).2)):=by
 rw[h,G6 B,jK];omega
theorem wJ {a b:ByteArray} (h:a.toList=b.toList):a=b:=by
 rw[eT,eT]at h
 cases a;cases b
 congr 1
 exact mu.1 h
def pD (l:List ByteArray) (x:ByteArray):Bool:=l.any fun y=>y.toList==x.toList
theorem Df {l:List ByteArray} {x:ByteArray}:pD l x=true↔x∈l:=by
 unfold pD
 rw[List.any_eq_true]
 constructor
 ·rintro⟨y,hy,e⟩
  rw[gm]at e
  rwa [←wJ e]
 ·exact fun h=>⟨x,h,by simp⟩
def EO (s:ByteArray):List UInt8:=s.data.toList
theorem Md (s:ByteArray):s.toList=EO s:=eT ..
def LiesN (w:World) (A:Option Addr) (ns:List ByteArray):Prop:=ns≠[]→ ∃b o,A=some ⟨b,o,none⟩∧b<w.heap.size∧ ∀i x,ns[i]? =some x→w.cell? ⟨b,o+i,none⟩=some (.string x)
theorem LiesN.below {w w':World} {A:Option Addr} {q:List ByteArray} (h:LiesN w A q) (D:Below w.heap.size w w'):LiesN w' A q:=fun E=>by
 obtain⟨b,o,e,B,F⟩:=h E
 exact⟨b,o,e,dX B D.size,fun i x hi=>(D.cell (p:=⟨b,o+i,Option.none⟩) B).trans (F i x hi)⟩
theorem LiesN.at {w:World} {A:Option Addr} {q:List ByteArray} (h:LiesN w A q) {i:Nat} (hi:i<q.length): ∃b o,A=some ⟨b,o,Option.none⟩∧b<w.heap.size∧w.cell? ⟨b,o+i,Option.none⟩=some (.string q[i]):=by
 obtain⟨b,o,e,B,D⟩:=h (by intro h0;rw[h0]at hi;exact absurd hi (by simp))
 exact⟨b,o,e,B,D i _ (dZ hi)⟩
def Jh (ns:List ByteArray):Prop:= ∀x∈ns,x.size≤1000000000
def yy (w:World) (v:Value) (ns:List ByteArray):Prop:= ∃A c,v= .slice A ns.length c∧ns.length≤c∧LiesN w A ns∧Jh ns
def pu (c:Int):Bool:=decide ((97≤c∧c≤122)∨(48≤c∧c≤57)∨c=46∨c=58∨c=95∨c=45)
def oG (l:List Int):Bool:=decide (1≤l.length∧l.length≤32)&&l.all pu
theorem yL {a b:Bool} (h:a=b):Ending.returned (.bool a)= .returned (.bool b):=by rw[h]
theorem rp (s:ByteArray) (k:Nat) (h:k<s.size):(a_ s).drop k=(s[k].toNat:Int)::(a_ s).drop (k+1):=by
 rw[eD (by rw[j_];exact h)]
 congr 1
 have:=o_ s k h
 rw[dR,dZ (by rw[j_];exact h)]at this
 exact this
theorem uA (c:Int) (w:World) (h0:0≤c) (h1:c≤255):
  Calls prog 76 #[.int .u8 c] w fun e w'=>e= .returned (.bool (pu c))∧w=w':=by
 have L:((97≤c∧c≤122)∨(48≤c∧c≤57)∨c=46∨c=58∨c=95∨c=45)∨((¬97≤c∨ ¬c≤122)∧(¬48≤c∨ ¬c≤57)∧c≠46∧c≠58∧c≠95∧c≠45):=by omega
 rcases L with(⟨a,b⟩|⟨a,b⟩|rfl|rfl|rfl|rfl)|⟨D,B,I,G,F,E⟩
 ·have q:Hid (pu c=true):=dM (by simp[pu,a,b])
  go_enter kJ,kk
  go_wp2
  all_goals(go_ret;exact⟨yL q.out.symm,rfl⟩)
 ·have q:Hid (pu c=true):=dM (by simp[pu,a,b])
  have a1: ¬97≤c:=by omega
  go_enter kJ,kk
  go_wp2
  all_goals(go_ret;exact⟨yL q.out.symm,rfl⟩)
 ·go_enter kJ,kk
  go_wp2
  all_goals(go_ret;exact⟨rfl,rfl⟩)
 ·go_enter kJ,kk
  go_wp2
  all_goals(go_ret;exact⟨rfl,rfl⟩)
 ·go_enter kJ,kk
  go_wp2
  all_goals(go_ret;exact⟨rfl,rfl⟩)
 ·go_enter kJ,kk
  go_wp2
  all_goals(go_ret;exact⟨rfl,rfl⟩)
 ·have q:Hid (pu c=false):=dM (by simp only[pu,fz];omega)
  have Q:(c==46)=false:=by simp[I]
  have O:(c==58)=false:=by simp[G]
  have N:(c==95)=false:=by simp[F]
  have M:(c==45)=false:=by simp[E]
  clear I G F E
  rcases D with D|D<;>rcases B with B|B
  all_goals
   go_enter kJ,kk
   go_wp2
   all_goals first|(exfalso;omega)|(go_ret;exact⟨yL q.out.symm,rfl⟩)
theorem AD {l:List Int} (h:oG l=true):1≤l.length∧l.length≤32:=by
 unfold oG at h
 rw[fb]at h
 exact fG h.1
theorem Mq (s:ByteArray) (w:World):
  Calls prog 48 #[.string s] w fun e w'=>e= .returned (.bool (oG (a_ s)))∧w=w':=by
 have O:=dM (j_ s)
 by_cases h1:s.size=0
 ·obtain rfl:s=⟨#[]⟩:=by
   obtain⟨d⟩:=s
   have:d.size=0:=h1
   rw[Array.eq_empty_of_size_eq_zero this]
  go_enter func48,ntmps48
  go_wp2
  go_ret
  exact⟨rfl,rfl⟩
 ·have M:(s.toList==([]:List UInt8))=false:=by
   rw[dY,eT]
   intro e
   apply h1
   show s.data.size=0
   rw[←Array.length_toList,e];rfl
  have Q:(s.toList==(⟨#[]⟩:ByteArray).toList)=false:=by rw[show(⟨#[]⟩:ByteArray).toList=[]by rw[eT]];exact M
  by_cases V:s.size≤32
  ·have N: ¬(32:Int)<(s.size:Int):=by omega
   have G:oG (a_ s)=(a_ s).all pu:=by
    unfold oG
    rw[ec (by rw[j_];omega),lq]
   rw[G]
   clear G
   go_enter func48,ntmps48
   go_wp2
   go_loop [13] (fun v=> ∃k:Nat,k≤s.size∧v= .int .i64 (k:Int)∧(a_ s).all pu=((a_ s).drop k).all pu) (fun v=>s.size-(intOf v).toNat)
   case atStart=>exact⟨0,eN _,rfl,rfl⟩
   case round=>
    obtain⟨k,R,rfl,F⟩:=hrel
    have E:=dM F
    clear F
    by_cases I:k<s.size
    ·have B:=rp s k I
     have U:(0:Int)≤(k:Int):=by omega
     have L:=s[k].toNat_lt
     have D:=dM (fun W:World=>uA (s[k].toNat:Int) W (by omega) (by omega))
     cases ho:pu (s[k].toNat:Int)with
     |false=>
      have q:Hid ((a_ s).all pu=false):=dM (by rw[E.out,B,lj,ho];rfl)
      rw[ho]at D
      clear B ho L
      go_wp2_with(go_at_call 76;(with_reducible refine(D.out _).mono ?_);rintro e w' ⟨rfl,rfl⟩)
      go_ret
      exact⟨yL q.out.symm,rfl⟩
     |true=>
      have q:Hid ((a_ s).all pu=((a_ s).drop (k+1)).all pu):=dM (by rw[E.out,B,lj,ho];rfl)
      rw[ho]at D
      clear B ho L
      go_wp2_with(go_at_call 76;(with_reducible refine(D.out _).mono ?_);rintro e w' ⟨rfl,rfl⟩)
      go_round
      case rel=>exact⟨k+1,by omega,by go_num,q.out⟩
      case measure=>simp[intOf];omega
    ·obtain rfl:k=s.size:=by omega
     have q:Hid ((a_ s).all pu=true):=dM (by rw[E.out,fB (by rw[O.out];exact dQ _)];rfl)
     clear I
     go_wp2
     go_ret
     exact⟨yL q.out.symm,rfl⟩
  ·have N:(32:Int)<(s.size:Int):=by omega
   have q:Hid (oG (a_ s)=false):=dM (by unfold oG;rw[dT (by rw[j_];omega),iv])
   go_enter func48,ntmps48
   go_wp2
   go_ret
   exact⟨yL q.out.symm,rfl⟩
abbrev mV:=ByteArray×ByteArray
def DY (k:mV):Bool:=oG (a_ k.1)&&decide (1≤k.2.size∧k.2.size≤128)
def s_ (ks:List mV) (t:ByteArray):Bool:=ks.any fun k=>decide (k.1=t)
def BJ (ks:List mV):Nat→Bool
 |0=>true
 |i+1=>BJ ks i&&(match ks[i]? with
  |none=>true
  |some k=>DY k&& !s_ (ks.take i) k.1)
def o9 (ks:List mV):Bool:=decide (1≤ks.length∧ks.length≤4)&&BJ ks ks.length
theorem JZ {ks:List mV} {i:Nat} (h:i<ks.length):BJ ks (i+1)=(BJ ks i&&(DY ks[i]&& !s_ (ks.take i) ks[i].1)):=by
 rw[BJ,dZ h]
theorem Kr {ks:List mV}: ∀{i j:Nat},i≤j→BJ ks j=true→BJ ks i=true
 |i,0,h,hj=>by rw[mi.1 h];exact hj
 |i,j+1,h,hj=>by
  rcases eX j i with h'|h'
  ·rw[show i=j+1 by omega];exact hj
  ·rw[BJ,fb]at hj
   exact Kr h' hj.1
theorem tY {ks:List mV} {i:Nat} (h:i<ks.length) (q:(DY ks[i]&& !s_ (ks.take i) ks[i].1)=false):o9 ks=false:=by
 cases hr:o9 ks with
 |false=>rfl
 |true=>
  unfold o9 at hr
  rw[fb]at hr
  have:=Kr (i:=i+1) h hr.2
  rw[JZ h,q,kU]at this
  cases this
theorem Hl {ks:List mV} (h:o9 ks=true):1≤ks.length∧ks.length≤4∧ ∀k∈ks,oG (a_ k.1)=true∧1≤k.2.size∧k.2.size≤128:=by
 unfold o9 at h
 rw[fb,eb]at h
 refine⟨h.1.1,h.1.2,fun k q=> ?_⟩
 obtain⟨i,hi,rfl⟩:=i7.1 q
 have:=Kr (i:=i+1) hi h.2
 rw[JZ hi,fb,fb]at this
 have:=this.2.1
 unfold DY at this
 rw[fb,eb]at this
 exact this
theorem tX {ks:List mV} (h: ¬(1≤ks.length∧ks.length≤4)):o9 ks=false:=by
 unfold o9;rw[dT h,iv]
theorem Hk {s:ByteArray} (h:oG (a_ s)=true):1≤s.size∧s.size≤32:=by
 have:=AD h;rw[j_]at this;exact this
def px:List Int→List (List Int)
 |[]=>[[]]
 |c::r=>if c=46 then[]::px r else
  match px r with
  |p::ps=>(c::p)::ps
  |[]=>[[c]]
theorem Kq: ∀l:List Int,px l≠[]
 |[]=>by simp[px]
 |c::r=>by
  unfold px
  split
  ·simp
  ·split<;>simp
theorem F6: ∀(a b:List Int),46 ∉ a→px (a++46::b)=a::px b
 |[],b,_=>by simp[px]
 |c::r,b,h=>by
  have B: ¬c=46:=fun e=>h (by simp[e])
  have q:=F6 r b (fun k=>h (eE _ k))
  rw[ff,px,dN B,q]
theorem Im: ∀(a:List Int),46 ∉ a→px a=[a]
 |[],_=>rfl
 |c::r,h=>by
  have q: ¬c=46:=fun e=>h (by simp[e])
  rw[px,dN q,Im r (fun k=>h (eE _ k))]
theorem Il: ∀(l p:List Int),p∈px l→46 ∉ p∧(∀x∈p,x∈l)∧p.length≤l.length
 |[],p,h=>by simp[px]at h;subst h;simp
 |c::r,p,h=>by
  rw[px]at h
  split at h
  ·rcases eF.1 h with rfl|h
   ·simp
   ·obtain⟨h1,D,E⟩:=Il r p h
    exact⟨h1,fun x B=>eE _ (D x B),by simp;omega⟩
  ·rename_i F
   split at h
   ·rename_i q G e
    rcases eF.1 h with rfl|h
    ·obtain⟨h1,D,E⟩:=Il r q (by rw[e];simp)
     refine⟨fun k=> ?_,fun x B=> ?_,by simp;omega⟩
     ·rcases eF.1 k with k|k
      ·exact F k.symm
      ·exact h1 k
     ·rcases eF.1 B with rfl|B
      ·simp
      ·exact eE _ (D x B)
    ·obtain⟨h1,D,E⟩:=Il r p (by rw[e];exact eE _ h)
     exact⟨h1,fun x B=>eE _ (D x B),by simp;omega⟩
   ·rename_i e;exact absurd e (Kq r)
theorem vB: ∀{l a b c:List Int},px l=[a,b,c]→l=a++46::(b++46::c):=by
 have one: ∀(l p:List Int) (D:List (List Int)),px l=p::D→(D=[]∧l=p)∨ ∃r,l=p++46::r∧px r=D:=by
  intro l
  induction l with
  |nil=>intro p D h;simp[px]at h;exact .inl ⟨h.2,h.1.symm⟩
  |cons x r ih=>
   intro p D h
   rw[px]at h
   split at h
   ·rename_i G;injection h with h1 B;exact .inr ⟨r,by rw[←h1,G];rfl,B⟩
   ·split at h
    ·rename_i q F e
     injection h with h1 B
     rcases ih q F e with⟨a1,a2⟩|⟨E,a1,a2⟩
     ·exact .inl ⟨by rw[←B,a1],by rw[←h1,a2]⟩
     ·exact .inr ⟨E,by rw[←h1,a1];rfl,by rw[a2,B]⟩
    ·rename_i e;exact absurd e (Kq r)
 intro l a b c h
 rcases one l a _ h with⟨e,_⟩|⟨r,N,h1⟩
 ·cases e
 rcases one r b _ h1 with⟨e,_⟩|⟨t,M,B⟩
 ·cases e
 rcases one t c _ B with⟨_,L⟩|⟨u,_,I⟩
 ·rw[N,M,L]
 ·exact absurd I (Kq u)
theorem L3 (c:UInt8): ∀l:List UInt8,(Lib.indexByte l c= -1∧c ∉ l)∨ ∃a b,l=a++c::b∧c ∉ a∧Lib.indexByte l c=a.length
 |[]=> .inl ⟨rfl,by simp⟩
 |b::l=>by
  unfold Lib.indexByte
  by_cases h:b=c
  ·subst h
   exact .inr ⟨[],l,rfl,by simp,by simp⟩
  ·have B:(b==c)=false:=dY.2 h
   have D: ¬c=b:=fun e=>h e.symm
   rcases L3 c l with⟨h1,q⟩|⟨a,G,h1,q,F⟩
   ·exact .inl ⟨by rw[B,h1];rfl,by simp[D,q]⟩
   ·refine .inr ⟨b::a,G,by rw[h1];rfl,by simp[D,q],?_⟩
    have E:((a.length:Int)== -1)=false:=by rw[dY];omega
    rw[B,F]
    simp[E]
def D4 (b:UInt8):Int:=(b.toNat:Int)
theorem EP {a b:UInt8} (h:D4 a=D4 b):a=b:=lA.1 (by unfold D4 at h;omega)
theorem ML {c:UInt8} {l:List UInt8} (h:c ∉ l):D4 c ∉ l.map D4:=fun k=>by
 obtain⟨x,q,e⟩:=jN.1 k
 exact h (EP e▸q)
theorem MX: ∀(n:Nat) (l:List UInt8),l.length≤n→(Lib.splitK [46] 0 (Lib.count l [46]) l).map (·.map D4)=px (l.map D4)
 |n,l,hn=>by
  rcases L3 46 l with⟨h1,q⟩|⟨a,b,h1,q,F⟩
  ·have hi:Lib.index l [46]= -1:=(Lib.index_one _ _).trans h1
   rw[Lib.count_miss hi]
   have:=ML q
   rw[show D4 46=46 from rfl]at this
   rw[Im _ this];rfl
  ·have hi:Lib.index l [46]=(a.length:Int):=(Lib.index_one _ _).trans F
   have E:l.drop (a.length+1)=b:=by rw[h1,List.drop_append];simp
   have B:l.take a.length=a:=by rw[h1,List.take_left]
   rw[Lib.count_hit (by simp) hi,Nat.add_comm,Lib.splitK]
   have D: ¬(Lib.index l [46]== -1)=true:=by rw[hi,gm];omega
   rw[dN D,hi]
   simp only[kP,kQ,js,B,E,gZ]
   have G:l.length=a.length+(b.length+1):=by rw[h1];simp
   match n,hn with
   |0,hn=>omega
   |n+1,hn=>
    rw[MX n b (by omega),h1,gl,gZ]
    have:=ML q
    rw[show D4 46=46 from rfl]at this
    rw[show D4 46=46 from rfl,F6 _ _ this]
theorem wN (s q:ByteArray) (B:q.data.toList=[46]):(Lib.splitB q 0 (Lib.countB s q) s).map a_=px (a_ s):=by
 have h:=Lib.splitB_data q 0 (Lib.countB s q) s
 rw[B]at h
 have D:Lib.countB s q=Lib.count s.data.toList [46]:=by rw[←B]
 rw[D]at h
 have E:=MX _ s.data.toList (dQ _)
 rw[←h,jV]at E
 rw[D]
 exact E
theorem k_:(∀(a:Act) (k:Nat) (v:Value),a.put (some k) v={a with tmps:=a.tmps.setIfInBounds k v})∧(∀(a:Act) (v:Value),a.put none v=a)∧(∀(l:List Value) (i:Nat) (v:Value),l.toArray.setIfInBounds i v=(l.set i v).toArray)∧(∀(x v:Value) (l:List Value),(x::l).set 0 v=v::l)∧(∀(x v:Value) (l:List Value) (i:Nat),(x::l).set (i+1) v=x::l.set i v)∧
  (∀(l:List Oper) (i:Nat) (h:i<l.toArray.size),l.toArray[i]=l[i]'(by simpa using h))∧(∀(l:List Oper) (a:Oper) (i:Nat) (h:i+1<(a::l).length),(a::l)[i+1]=l[i]'(by simpa using h))∧(∀(l:List Oper) (a:Oper) (h:0<(a::l).length),(a::l)[0]=a):=
 ⟨fun _ _ _=>rfl,fun _ _=>rfl,fun _ _ _=>by simp,fun _ _ _=>rfl,fun _ _ _ _=>rfl,fun _ _ _=>by simp,fun _ _ _ _=>rfl,fun _ _ _=>rfl⟩
section
variable {P:Program} {ops:Array Oper} {Q:Exit→Act→World→Prop} {md:Region.Mode} {S:World→Prop} {fuel:Nat} {listed:Array Bool} {a:Act} {w:World}
theorem mZ (i:Nat) {v:Value} {q:Oper} (h:wpAnyH P md ops Q S fuel (listed.setIfInBounds i true) (a.put q.dst v) w) (hi:ops[i]? =some q:=by rfl) (D:Region.noSelect ops=true:=by kernel_rfl) (F:Region.free md ops listed i=true:=by kernel_rfl) (E:(Region.ready md ops listed).contains i=true:=by kernel_rfl)
  (I: ∀c a w,Q (.panic c) (a.put q.dst v) w→Q (.panic c) a w:=by exact fun _ _ _ h=>h) (B:Region.wanted q (yielded ops a.tmps)=true:=by rfl) (hy: ∀w,S w→(execOp a.eval q).run P w= .ok (.value v) w:=by(intro w L;first|(go_simp;done)|(go_simp;with_reducible rfl))) (G:S w:=by assumption):
  wpAnyH P md ops Q S (fuel+1) listed a w:=
 kI hi D F E I (Or.inl ⟨B,hy⟩) G h
theorem qi (i:Nat) {D B:World→Prop} {v:Value} {q:Oper} (h:wpAnyH P md ops Q (fun X=>D X∧B X) fuel (listed.setIfInBounds i true) (a.put q.dst v) w) (hi:ops[i]? =some q:=by rfl) (F:Region.noSelect ops=true:=by kernel_rfl) (I:Region.free md ops listed i=true:=by kernel_rfl) (G:(Region.ready md ops listed).contains i=true:=by kernel_rfl)
  (M: ∀c a w,Q (.panic c) (a.put q.dst v) w→Q (.panic c) a w:=by exact fun _ _ _ h=>h) (E:Region.wanted q (yielded ops a.tmps)=true:=by rfl) (hy: ∀w,D w→B w→(execOp a.eval q).run P w= .ok (.value v) w:=by(intro w O N;first|(go_simp;done)|(go_simp;with_reducible rfl))) (L:D w∧B w:=by assumption):
  wpAnyH P md ops Q (fun X=>D X∧B X) (fuel+1) listed a w:=
 kI hi F I G M (Or.inl ⟨E,fun w h=>hy w h.1 h.2⟩) L h
theorem Hu (i:Nat) {q:Oper} (h:wpAnyH P md ops Q S fuel (listed.setIfInBounds i true) (a.put q.dst undef) w) (hi:ops[i]? =some q:=by rfl) (D:Region.noSelect ops=true:=by kernel_rfl) (F:Region.free md ops listed i=true:=by kernel_rfl) (E:(Region.ready md ops listed).contains i=true:=by kernel_rfl)
  (I: ∀c a w,Q (.panic c) (a.put q.dst undef) w→Q (.panic c) a w:=by exact fun _ _ _ h=>h) (B:Region.wanted q (yielded ops a.tmps)=false:=by rfl) (G:S w:=by assumption):
  wpAnyH P md ops Q S (fuel+1) listed a w:=
 kI hi D F E I (Or.inr ⟨B,rfl⟩) G h
theorem pn (i:Nat) {o:Oper} (h: ∀q:Act→World→Prop,Shut (∀a w,S w→(S w→wpAnyH P md ops Q S fuel (listed.setIfInBounds i true) a w)→q a w)→if Region.wanted o (yielded ops a.tmps)=true then Oper.wp P o a w q Q else q (a.put o.dst undef) w)
  (B:Region.ready md ops listed=[i]:=by kernel_rfl) (hi:ops[i]? =some o:=by rfl):wpAnyH P md ops Q S (fuel+1) listed a w:=
 eO B (by simp) (en hi h eM)
end
def ol (x:Int) (k:Nat):Int:=bits .or .u32 (x*2^(32-k)%4294967296) (x/2^k)
theorem Dz (q:BinOp) (x y:Int):0≤bits q .u32 x y∧bits q .u32 x y<4294967296:=by
 unfold bits;simp only[ko];omega
def Fu (x:Int) (i j k:Nat):Int:=bits .xor .u32 (bits .xor .u32 (ol x i) (ol x j)) (ol x k)
def oa (b:List Int):Nat→List Int
 |0=>List.replicate 64 0
 |k+1=>(oa b k).set (k/4) (bits .or .u32 ((oa b k).getD (k/4) 0*256%4294967296) (b.getD k 0))
@[simp] theorem nU (b:List Int): ∀k,(oa b k).length=64
 |0=>by simp[oa]
 |k+1=>by simp[oa,nU b k]
theorem sP (b:List Int): ∀k i,0≤(oa b k).getD i 0∧(oa b k).getD i 0<4294967296
 |0,i=>by
  simp only[oa,dR,jd]
  split<;>simp
 |k+1,i=>by
  have h:=sP b k i
  simp only[oa,dR,iq]at h⊢
  split
  ·split
   ·simp only[gO];exact Dz _ _ _
   ·simp
  ·exact h
def tQ (p:Int):Int:=bits .xor .u32 (bits .xor .u32 (ol p 17) (ol p 19)) (p/1024)
def tR (q:Int):Int:=bits .xor .u32 (bits .xor .u32 (ol q 7) (ol q 18)) (q/8)
def yI (L:List Int) (t:Nat):Int:=(tQ (L.getD (t-2) 0)+L.getD (t-7) 0+tR (L.getD (t-15) 0)+L.getD (t-16) 0)%4294967296
def oR (b:List Int):Nat→List Int
 |0=>oa b 64
 |n+1=>(oR b n).set (16+n) (yI (oR b n) (16+n))
@[simp] theorem ng (b:List Int): ∀k,(oR b k).length=64
 |0=>by simp[oR]
 |k+1=>by simp[oR,ng b k]
theorem ux (L:List Int) (t:Nat):0≤yI L t∧yI L t<4294967296:=by unfold yI;omega
theorem Hb (b:List Int): ∀k i,0≤(oR b k).getD i 0∧(oR b k).getD i 0<4294967296
 |0,i=>sP b 64 i
 |k+1,i=>by
  have h:=Hb b k i
  simp only[oR,dR,iq]at h⊢
  split
  ·split
   ·simp only[gO];exact ux _ _
   ·simp
  ·exact h
def rootsL:List Int:=[1116352408,1899447441,3049323471,3921009573,961987163,1508970993,2453635748,2870763221,3624381080,310598401,607225278,1426881987,1925078388,2162078206,2614888103,3248222580,3835390401,4022224774,264347078,604807628,770255983,1249150122,1555081692,1996064986,2554220882,2821834349,2952996808,3210313671,3336571891,3584528711,113926993,338241895,666307205,773529912,1294757372,1396182291,1695183700,1986661051,2177026350,2456956037,2730485921,2820302411,3259730800,3345764771,3516065817,3600352804,4094571909,275423344,430227734,506948616,659060556,883997877,958139571,1322822218,1537002063,1747873779,1955562222,2024104815,2227730452,2361852424,2428436474,2756734187,3204031479,3329325298]
theorem Ly:rootsL.length=64:=rfl
def Ht (s:List Int) (kt wt:Int):List Int:=
 match s with
 |[a,b,c,d,e,f,g,h]=>
  [(((h+Fu e 6 11 25+bits .xor .u32 (bits .and .u32 e f) (bits .and .u32 (bits .xor .u32 4294967295 e) g)+kt+wt)%4294967296)+((Fu a 2 13 22+bits .xor .u32 (bits .xor .u32 (bits .and .u32 a b) (bits .and .u32 a c)) (bits .and .u32 b c))%4294967296))%4294967296,
   a,b,c,(d+((h+Fu e 6 11 25+bits .xor .u32 (bits .and .u32 e f) (bits .and .u32 (bits .xor .u32 4294967295 e) g)+kt+wt)%4294967296))%4294967296,e,f,g]
 |s=>s
def pg (W s:List Int):Nat→List Int
 |0=>s
 |k+1=>Ht (pg W s k) (rootsL.getD k 0) (W.getD k 0)
def oV (s r:List Int):Nat→List Int
 |0=>s
 |k+1=>(oV s r k).set k (((oV s r k).getD k 0+r.getD k 0)%4294967296)
@[simp] theorem oF (s r:List Int): ∀k,(oV s r k).length=s.length
 |0=>rfl
 |k+1=>by simp[oV,oF s r k]
theorem sO (s r:List Int) (q: ∀i,0≤s.getD i 0∧s.getD i 0<4294967296): ∀k i,0≤(oV s r k).getD i 0∧(oV s r k).getD i 0<4294967296
 |0,i=>q i
 |k+1,i=>by
  have h:=sO s r q k i
  simp only[oV,dR,iq]at h⊢
  split
  ·split
   ·simp only[gO];omega
   ·simp
  ·exact h
def nI (s b:List Int):List Int:=oV s (pg (oR b 48) s 64) 8
theorem zN (s b:List Int):(nI s b).length=s.length:=oF _ _ _
theorem D_ (s b:List Int) (q: ∀i,0≤s.getD i 0∧s.getD i 0<4294967296) (i:Nat):0≤(nI s b).getD i 0∧(nI s b).getD i 0<4294967296:=sO _ _ q 8 i
def nX:List Int:=[1779033703,3144134277,1013904242,2773480762,1359893119,2600822924,528734635,1541459225]
def HC (sum blk:List Int) (n:Nat):List Value:=c_ .u32 sum++(c_ .u8 blk++[.int .u64 (n:Int)])
def oI (m:Int):Nat→Int
 |0=>m
 |k+1=>oI m k/256
def oC (L:List Int) (m:Int):Nat→List Int
 |0=>L
 |k+1=>(oC L m k).set (56+(7-k)) (oI m k%256)
@[simp] theorem oE (L:List Int) (m:Int): ∀k,(oC L m k).length=L.length
 |0=>rfl
 |k+1=>by simp[oC,oE L m k]
theorem se (L:List Int) (m:Int) (q: ∀i,0≤L.getD i 0∧L.getD i 0≤255): ∀k i,0≤(oC L m k).getD i 0∧(oC L m k).getD i 0≤255
 |0,i=>q i
 |k+1,i=>by
  have h:=se L m q k i
  simp only[oC,dR,iq]at h⊢
  split
  ·split
   ·simp only[gO];omega
   ·simp
  ·exact h
def pQ (s:List Int):Nat→List Int
 |0=>List.replicate 32 0
 |k+1=>((((pQ s k).set (4*k) (s.getD k 0/16777216)).set (4*k+1) (s.getD k 0/65536%256)).set (4*k+2) (s.getD k 0/256%256)).set (4*k+3) (s.getD k 0%256)
@[simp] theorem nR (s:List Int): ∀k,(pQ s k).length=32
 |0=>by simp[pQ]
 |k+1=>by simp[pQ,nR s k]
theorem qf (L:List Int) (n:Nat) (x:Int) (q:0≤x∧x≤255) (B: ∀i,0≤L.getD i 0∧L.getD i 0≤255) (i:Nat):0≤(L.set n x).getD i 0∧(L.set n x).getD i 0≤255:=by
 have h:=B i
 simp only[dR,iq]at h⊢
 split
 ·split
  ·simp only[gO];exact q
  ·simp
 ·exact h
theorem rU (n:Nat) (i:Nat):0≤(List.replicate n (0:Int)).getD i 0∧(List.replicate n (0:Int)).getD i 0≤255:=by
 simp only[dR,jd]
 split<;>simp
theorem Cc (s:List Int) (q: ∀i,0≤s.getD i 0∧s.getD i 0<4294967296): ∀k i,0≤(pQ s k).getD i 0∧(pQ s k).getD i 0≤255
 |0,i=>rU 32 i
 |k+1,i=>by
  have:=q k
  unfold pQ
  exact qf _ _ _ (by omega) (qf _ _ _ (by omega) (qf _ _ _ (by omega) (qf _ _ _ (by omega) (Cc s q k)))) i
def Words (l:List Int):Prop:= ∀i,0≤l.getD i 0∧l.getD i 0<4294967296
theorem Bytes.rep (n:Nat):Bytes (List.replicate n 0):=rU n
theorem Words.start:Words nX:=fun i=>
 match i with
 |0|1|2|3|4|5|6|7=>by decide
 |n+8=>by simp[nX]
def pL (bs:List Int):Nat→List Int
 |0=>nX
 |k+1=>nI (pL bs k) ((bs.drop (64*k)).take 64)
theorem FD (q:List Int): ∀k,(pL q k).length=8
 |0=>rfl
 |k+1=>by rw[pL,zN,FD q k]
theorem F4 (q:List Int): ∀k,Words (pL q k)
 |0=>Words.start
 |k+1=>fun i=>D_ _ _ (F4 q k) i
theorem Kf (q x:List Int): ∀k,64*k≤q.length→pL (q++x) k=pL q k
 |0,_=>rfl
 |k+1,h=>by
  rw[pL,pL,Kf q x k (by omega),gP (by omega),iW (by rw[eq];omega)]
def HOk (sum blk bs:List Int):Prop:=
 sum.length=8∧Words sum∧blk.length=64∧Bytes blk∧blk.take (bs.length%64)=bs.drop (64*(bs.length/64))∧(64≤bs.length→sum=pL bs (bs.length/64))
theorem HOk.zero:HOk (List.replicate 8 0) (List.replicate 64 0) []:=
 ⟨rfl,fun i=>by have:=rU 8 i;omega,rfl,rU 64,rfl,fun h=>absurd h (by simp)⟩
theorem HOk.soFar {B blk q:List Int} (h:HOk B blk q):(if q.length<64 then nX else B)=pL q (q.length/64):=by
 split
 ·rename_i D
  rw[show q.length/64=0 by omega];rfl
 ·exact h.2.2.2.2.2 (by omega)
theorem Li {D blk q:List Int} (h:HOk D blk q) (B:List Int) (G:q.length%64+B.length≤64):
  (splice blk (q.length%64) B).take (q.length%64+B.length)=(q++B).drop (64*(q.length/64))∧(splice blk (q.length%64) B).length=64:=by
 obtain⟨_,_,F,_,E,_⟩:=h
 refine⟨?_,j2 blk (q.length%64) B (by omega)|>.trans F⟩
 rw[splice,←fw,iW (by simp;omega),eo (by simp;omega),E,gP (by omega)]
theorem HOk.part {D blk B:List Int} (h:HOk D blk B) (q:List Int) (L:Bytes q) (R:B.length%64+q.length<64):HOk D (splice blk (B.length%64) q) (B++q):=by
 obtain⟨h1,N⟩:=Li h q (by omega)
 obtain⟨I,G,U,hy,Q,M⟩:=h
 have F:(B++q).length=B.length+q.length:=dS
 have E:(B.length+q.length)/64=B.length/64:=by omega
 have O:(B.length+q.length)%64=B.length%64+q.length:=by omega
 refine⟨I,G,N,hy.splice L _,by rw[F,E,O,h1],fun V=> ?_⟩
 rw[F,E,Kf _ _ _ (by omega)]
 exact M (by omega)
theorem HOk.full {F blk q:List Int} (h:HOk F blk q) (B:List Int) (I:Bytes B) (G:q.length%64+B.length=64):
  HOk (nI (pL q (q.length/64)) (splice blk (q.length%64) B)) (splice blk (q.length%64) B) (q++B):=by
 obtain⟨h1,L⟩:=Li h B (by omega)
 obtain⟨Q,N,R,hy,O,U⟩:=h
 have D:(q++B).length=q.length+B.length:=dS
 have E:(q.length+B.length)/64=q.length/64+1:=by omega
 have M:(q.length+B.length)%64=0:=by omega
 refine⟨by rw[zN,FD],fun i=>D_ _ _ (F4 _ _) i,L,hy.splice I _,?_,fun _=> ?_⟩
 ·rw[D,E,M,jG,fo (by rw[D];omega)]
 ·rw[D,E,pL,Kf _ _ _ (by omega),←h1,G,lZ,show min 64 64=64 from rfl,eo (by omega)]
def nZ (rest:List Int):List Int:=rest++(128::List.replicate (63-rest.length) 0)
def pW (bs:List Int):List Int:=
 if 64-bs.length%64-1<8 then nI (nI (pL bs (bs.length/64)) (nZ (bs.drop (64*(bs.length/64))))) (oC (List.replicate 64 0) (bs.length*8) 8)
 else nI (pL bs (bs.length/64)) (oC (nZ (bs.drop (64*(bs.length/64)))) (bs.length*8) 8)
def pq (bs:List Int):List Int:=pQ (pW bs) 8
theorem uH (q:List Int):(pW q).length=8:=by
 unfold pW;split<;>simp[zN,FD]
theorem zl (q:List Int):Words (pW q):=by
 unfold pW;split
 ·exact fun i=>D_ _ _ (fun j=>D_ _ _ (F4 _ _) j) i
 ·exact fun i=>D_ _ _ (F4 _ _) i
theorem ww (q:List Int):(pq q).length=32:=nR _ _
theorem BU (q:List Int):Bytes (pq q):=Cc _ (zl q) 8
theorem sh {rest:List Int} (h:Bytes rest):Bytes (nZ rest):=h.append (.of_mem fun x q=>by
 rcases eF.1 q with rfl|q
 ·decide
 ·rw[List.eq_of_mem_replicate q];decide)
theorem D3 {rest:List Int} (h:rest.length<64):(nZ rest).length=64:=by simp[nZ];omega
def sg (n:Int):Int:=if n<26 then n+65 else if n<52 then n+71 else if n<62 then n-4 else if n<63 then 45 else 95
def wo (c:Int):Int:=if 65≤c∧c≤90 then c-65 else if 97≤c∧c≤122 then c-71 else if 48≤c∧c≤57 then c+4 else if c=45 then 62 else if c=95 then 63 else 64
theorem pK (c:Int):0≤wo c∧wo c≤64:=by unfold wo;split<;>(try split)<;>(try split)<;>(try split)<;>(try split)<;>omega
theorem FJ (n:Int) (h:0≤n∧n<64):45≤sg n∧sg n≤122:=by unfold sg;split<;>(try split)<;>(try split)<;>(try split)<;>omega
theorem zI (n:Int) (h:0≤n∧n<64):wo (sg n)=n:=by
 unfold sg
 split
 ·unfold wo;rw[dP (by omega)];omega
 ·split
  ·unfold wo;rw[dN (by omega),dP (by omega)];omega
  ·split
   ·unfold wo;rw[dN (by omega),dN (by omega),dP (by omega)];omega
   ·split
    ·unfold wo;rw[dN (by omega),dN (by omega),dN (by omega),dP (by omega)];omega
    ·unfold wo;rw[dN (by omega),dN (by omega),dN (by omega),dN (by omega),dP (by omega)];omega
theorem ID (c:Int) (h:wo c≠64):sg (wo c)=c:=by
 by_cases h1:65≤c∧c≤90
 ·rw[show wo c=c-65 from by unfold wo;rw[dP h1]];unfold sg;rw[dP (by omega)];omega
 ·by_cases q:97≤c∧c≤122
  ·rw[show wo c=c-71 from by unfold wo;rw[dN h1,dP q]];unfold sg;rw[dN (by omega),dP (by omega)];omega
  ·by_cases E:48≤c∧c≤57
   ·rw[show wo c=c+4 from by unfold wo;rw[dN h1,dN q,dP E]];unfold sg;rw[dN (by omega),dN (by omega),dP (by omega)];omega
   ·by_cases D:c=45
    ·subst D;rfl
    ·by_cases B:c=95
     ·subst B;rfl
     ·exact absurd (by unfold wo;rw[dN h1,dN q,dN E,dN D,dN B]) h
def l_:List Int→List Int
 |a::b::c::r=>sg (a/4)::sg (a%4*16+b/16)::sg (b%16*4+c/64)::sg (c%64)::l_ r
 |[a,b]=>[sg (a/4),sg (a%4*16+b/16),sg (b%16*4)]
 |[a]=>[sg (a/4),sg (a%4*16)]
 |[]=>[]
def g_:List Int→List Int
 |a::b::c::d::r=>(wo a*4+wo b/16)::(wo b%16*16+wo c/4)::(wo c%4*64+wo d)::g_ r
 |[a,b,c]=>[wo a*4+wo b/16,wo b%16*16+wo c/4]
 |[a,b]=>[wo a*4+wo b/16]
 |_=>[]
def o7:List Int→Nat
 |[]=>0
 |c::r=>if wo c=64 then 0 else o7 r+1
theorem Hz: ∀l,o7 l≤l.length
 |[]=>dQ _
 |c::r=>by
  have:=Hz r
  unfold o7
  split
  ·exact eN _
  ·simp;omega
theorem JI: ∀(l:List Int) (k:Nat),k<o7 l→wo (l.getD k 0)≠64
 |[],k,h=>absurd h (by simp[o7])
 |c::r,k,h=>by
  by_cases q:wo c=64
  ·rw[o7,dP q]at h;omega
  ·rw[o7,dN q]at h
   match k with
   |0=>exact q
   |k+1=>exact JI r k (by omega)
theorem Kn: ∀(l:List Int),o7 l<l.length→wo (l.getD (o7 l) 0)=64
 |[],h=>absurd h (by simp)
 |c::r,h=>by
  by_cases q:wo c=64
  ·rw[o7,dP q];exact q
  ·rw[o7,dN q]at h⊢
   exact Kn r (by simpa using h)
def yJ (l:List Int):Int:=wo (l.getD (l.length-1) 0)%(if l.length%4=2 then 16 else 4)
def nM (l:List Int):Int:=
 if o7 l<l.length then(o7 l:Int)else if l.length%4=0 then-1 else if l.length%4=1 then(l.length:Int)else if yJ l=0 then-1 else(l.length:Int)-1
theorem zM: ∀l:List Int,(l_ l).length=(8*l.length+5)/6
 |[]=>rfl
 |[_]=>by simp[l_]
 |[_,_]=>by simp[l_]
 |a::b::c::r=>by
  have:=zM r
  simp only[l_,eu]
  omega
theorem Lm: ∀(x y:List Int),x.length%3=0→l_ (x++y)=l_ x++l_ y
 |[],y,_=>rfl
 |[_],y,h=>by simp at h
 |[_,_],y,h=>by simp at h
 |a::b::c::r,y,h=>by
  simp only[ff,l_,Lm r y (by simp at h;omega)]
theorem ME: ∀(x y:List Int),x.length%4=0→g_ (x++y)=g_ x++g_ y
 |[],y,_=>rfl
 |[_],y,h=>by simp at h
 |[_,_],y,h=>by simp at h
 |[_,_,_],y,h=>by simp at h
 |a::b::c::d::r,y,h=>by
  simp only[ff,g_,ME r y (by simp at h;omega)]
theorem Ga: ∀l:List Int,(g_ l).length=l.length*6/8
 |[]=>rfl
 |[_]=>by simp[g_]
 |[_,_]=>by simp[g_]
 |[_,_,_]=>by simp[g_]
 |a::b::c::d::r=>by
  have:=Ga r
  simp only[g_,eu]
  omega
def Hw (l:List Int):Prop:= ∀x∈l,0≤x∧x≤255
theorem JY: ∀(l:List Int),Hw l→ ∀c∈l_ l,∃n:Int,0≤n∧n<64∧c=sg n
 |[],_,c,hc=>by simp[l_]at hc
 |[a],h,c,hc=>by
  have q:=h a (by simp)
  simp only[l_,eF,fx,je]at hc
  rcases hc with rfl|rfl
  ·exact⟨_,by omega,by omega,rfl⟩
  ·exact⟨_,by omega,by omega,rfl⟩
 |[a,b],h,c,hc=>by
  have q:=h a (by simp)
  have D:=h b (by simp)
  simp only[l_,eF,fx,je]at hc
  rcases hc with rfl|rfl|rfl
  ·exact⟨_,by omega,by omega,rfl⟩
  ·exact⟨_,by omega,by omega,rfl⟩
  ·exact⟨_,by omega,by omega,rfl⟩
 |a::b::d::r,h,c,hc=>by
  have q:=h a (by simp)
  have D:=h b (by simp)
  have E:=h d (by simp)
  simp only[l_,eF]at hc
  rcases hc with rfl|rfl|rfl|rfl|hc
  ·exact⟨_,by omega,by omega,rfl⟩
  ·exact⟨_,by omega,by omega,rfl⟩
  ·exact⟨_,by omega,by omega,rfl⟩
  ·exact⟨_,by omega,by omega,rfl⟩
  ·exact JY r (fun x B=>h x (by simp[B])) c hc
theorem Ih: ∀(l:List Int),Hw l→g_ (l_ l)=l
 |[],_=>rfl
 |[a],h=>by
  have q:=h a (by simp)
  simp only[l_,g_,zI (a/4) (by omega),zI (a%4*16) (by omega)]
  congr 1;omega
 |[a,b],h=>by
  have q:=h a (by simp)
  have D:=h b (by simp)
  simp only[l_,g_,zI (a/4) (by omega),zI (a%4*16+b/16) (by omega),zI (b%16*4) (by omega)]
  congr 1
  ·omega
  ·congr 1;omega
 |a::b::c::r,h=>by
  have q:=h a (by simp)
  have D:=h b (by simp)
  have E:=h c (by simp)
  simp only[l_,g_,zI (a/4) (by omega),zI (a%4*16+b/16) (by omega),zI (b%16*4+c/64) (by omega),zI (c%64) (by omega),Ih r (fun x B=>h x (by simp[B]))]
  congr 1
  ·omega
  ·congr 1
   ·omega
   ·congr 1;omega
theorem vS: ∀(l:List Int),(∀c∈l,wo c≠64)→o7 l=l.length
 |[],_=>rfl
 |c::r,h=>by rw[o7,dN (h c (by simp)),vS r (fun x q=>h x (by simp[q]))];rfl
theorem Oc (x y:List Int) (h:y≠[]):(x++y).getD ((x++y).length-1) 0=y.getD (y.length-1) 0:=by
 have:0<y.length:=by rcases y with _|_<;>simp_all
 simp only[dR,dS]
 rw[ez (by omega)]
 congr 2;omega
theorem Mc: ∀(l:List Int),Hw l→(l_ l).length%4≠0→yJ (l_ l)=0
 |[],_,h=>absurd rfl h
 |[a],h,_=>by
  have E:=h a (by simp)
  show wo (sg (a%4*16))%16=0
  rw[zI _ (by omega)];omega
 |[a,b],h,_=>by
  have E:=h a (by simp)
  have G:=h b (by simp)
  show wo (sg (b%16*4))%4=0
  rw[zI _ (by omega)];omega
 |a::b::c::r,h,hl=>by
  have q:=Mc r (fun x B=>h x (by simp[B])) (by simp only[l_,eu]at hl;omega)
  have D:l_ r≠[]:=by
   intro e
   rw[l_,e]at hl
   simp at hl
  have:=Oc [sg (a/4),sg (a%4*16+b/16),sg (b%16*4+c/64),sg (c%64)] (l_ r) D
  unfold yJ at q⊢
  have e:l_ (a::b::c::r)=[sg (a/4),sg (a%4*16+b/16),sg (b%16*4+c/64),sg (c%64)]++l_ r:=rfl
  rw[e,this]
  have F:([sg (a/4),sg (a%4*16+b/16),sg (b%16*4+c/64),sg (c%64)]++l_ r).length%4=(l_ r).length%4:=by simp;omega
  rw[F];exact q
theorem KL (l:List Int) (h:Hw l):nM (l_ l)= -1:=by
 have h1:o7 (l_ l)=(l_ l).length:=vS _ fun c B=>by
  obtain⟨n,h0,h1,rfl⟩:=JY l h c B
  rw[zI n ⟨h0,h1⟩];omega
 unfold nM
 rw[dN (by omega)]
 by_cases q:(l_ l).length%4=0
 ·rw[dP q]
 ·rw[dN q,dN (by rw[zM];omega),dP (Mc l h q)]
inductive J where
 |mk (kind n:Int) (s:ByteArray) (l:List J) (k:List ByteArray)
def J.kind:J→Int| .mk k _ _ _ _=>k
def J.n:J→Int| .mk _ n _ _ _=>n
def J.s:J→ByteArray| .mk _ _ s _ _=>s
def J.l:J→List J| .mk _ _ _ l _=>l
def J.k:J→List ByteArray| .mk _ _ _ _ k=>k
def RepK (W:World) (k:List ByteArray) (v:Value):Prop:=
 ∃A c,v= .slice A k.length c∧k.length≤9223372036854775807∧(k≠[]→ ∃b o,A=some ⟨b,o,none⟩∧b<W.heap.size∧ ∀i,i<k.length→ ∃t,k[i]? =some t∧t.size≤9223372036854775807∧W.cell? ⟨b,o+i,none⟩=some (.string t))
def Five (W:World) (b o:Nat) (v:Value):Prop:=
 ∃a0 a1 a2 a3 a4,v= .agg #[a0,a1,a2,a3,a4]∧W.cell? ⟨b,o,none⟩=some a0∧W.cell? ⟨b,o+1,none⟩=some a1∧W.cell? ⟨b,o+2,none⟩=some a2∧W.cell? ⟨b,o+3,none⟩=some a3∧W.cell? ⟨b,o+4,none⟩=some a4
mutual
def RepJ (W:World):J→Value→Prop
 | .mk kind n s l k,v=> ∃vk A c,v= .agg #[.int .i64 kind,.int .i64 n,.string s,.slice A l.length c,vk]∧s.size≤9223372036854775807∧RepK W k vk∧l.length≤9223372036854775807∧
  (l≠[]→ ∃b o,A=some ⟨b,o,none⟩∧b<W.heap.size∧RepC W b o l)
def RepC (W:World) (b o:Nat):List J→Prop
 |[]=>True
 |x::r=>(∃v,RepJ W x v∧Five W b o v)∧RepC W b (o+5) r
end
theorem J.ind {P:J→Prop} (h: ∀kind n s l k,(∀x∈l,P x)→P (.mk kind n s l k)): ∀j,P j
 | .mk kind n s l k=>h kind n s l k (go l)
where go: ∀l:List J,∀x∈l,P x
 |[],x,hx=>by cases hx
 |y::r,x,hx=>by
  rcases eF.1 hx with e|hx
  ·rw[e];exact J.ind h y
  ·exact go r x hx
theorem RepK.below {W D:World} {k:List ByteArray} {v:Value} (h:RepK W k v) (B:Below W.heap.size W D):RepK D k v:=by
 obtain⟨A,c,e,F,I⟩:=h
 refine⟨A,c,e,F,fun E=> ?_⟩
 obtain⟨b,o,N,q,G⟩:=I E
 refine⟨b,o,N,dX q B.size,fun i hi=> ?_⟩
 obtain⟨t,h1,M,L⟩:=G i hi
 exact⟨t,h1,M,(B.cell (p:=⟨b,o+i,none⟩) q).trans L⟩
theorem Five.below {W D:World} {b o:Nat} {v:Value} (h:Five W b o v) (q:b<W.heap.size) (B:Below W.heap.size W D):Five D b o v:=by
 obtain⟨a0,a1,a2,a3,a4,e,h0,h1,G,F,E⟩:=h
 exact⟨a0,a1,a2,a3,a4,e,(B.cell (p:=⟨b,o,none⟩) q).trans h0,(B.cell (p:=⟨b,o+1,none⟩) q).trans h1,(B.cell (p:=⟨b,o+2,none⟩) q).trans G,(B.cell (p:=⟨b,o+3,none⟩) q).trans F,(B.cell (p:=⟨b,o+4,none⟩) q).trans E⟩
theorem RepJ.below {W B:World} (D:Below W.heap.size W B): ∀(j:J) (v:Value),RepJ W j v→RepJ B j v:=fun j=>by
 induction j using J.ind with
 |h kind n s l k q=>
  intro v h
  rw[RepJ]at h⊢
  obtain⟨F,A,c,e,I,N,M,Q⟩:=h
  refine⟨F,A,c,e,I,N.below D,M,fun L=> ?_⟩
  obtain⟨b,o,V,E,O⟩:=Q L
  refine⟨b,o,V,dX E D.size,?_⟩
  have G: ∀(l:List J) (o:Nat),(∀x∈l,∀v,RepJ W x v→RepJ B x v)→RepC W b o l→RepC B b o l:=fun l=>by
   induction l with
   |nil=>intro o _ _;rw[RepC];trivial
   |cons x r ihr=>
    intro o q h
    rw[RepC]at h⊢
    obtain⟨⟨v,h1,U⟩,R⟩:=h
    exact⟨⟨v,q x (by simp) v h1,U.below E D⟩,ihr (o+5) (fun y hy=>q y (eE _ hy)) R⟩
  exact G l o q O
theorem RepC.at {W:World} {b:Nat}: ∀{l:List J} {o:Nat},RepC W b o l→ ∀i (hi:i<l.length),∃v,RepJ W l[i] v∧Five W b (o+i*5) v
 |x::r,o,h,0,_=>by rw[RepC]at h;rw[k7];exact h.1
 |x::r,o,h,i+1,hi=>by
  rw[RepC]at h
  have:=h.2.at i (by simpa using hi)
  rw[show o+5+i*5=o+(i+1)*5 by omega]at this
  exact this
mutual
def s9:J→J→Bool
 | .mk k1 n1 s1 l1 m1,.mk k2 n2 s2 l2 m2=>decide (k1=k2)&&decide (n1=n2)&&decide (s1=s2)&&decide (m1=m2)&&wh l1 l2
def wh:List J→List J→Bool
 |[],[]=>true
 |x::r,y::t=>s9 x y&&wh r t
 |_,_=>false
end
def C7 (c:Int):Bool:=decide (48≤c∧c≤57)
theorem ot {c:Int}:C7 c=true↔48≤c∧c≤57:=by unfold C7;rw[eb]
theorem rd {c:Int}:C7 c=false↔ ¬(48≤c∧c≤57):=by unfold C7;rw[fz]
def qw (n:Nat):List Int:=if h:n<10 then[48+(n:Int)]else qw (n/10)++[48+((n%10:Nat):Int)]
termination_by n
decreasing_by omega
theorem Dr {n:Nat} (h:n<10):qw n=[48+(n:Int)]:=by rw[qw,dif_pos h]
theorem Bc {n:Nat} (h: ¬n<10):qw n=qw (n/10)++[48+((n%10:Nat):Int)]:=by rw[qw,dif_neg h]
def LK (n:Int):List Int:=if n<0 then 45::qw n.natAbs else qw n.natAbs
theorem MF: ∀(n:Nat),∀x∈qw n,48≤x∧x≤57:=fun n=>by
 induction n using Nat.strongRecOn with
 |_ n ih=>
  intro x q
  by_cases h:n<10
  ·rw[Dr h]at q
   simp at q;omega
  ·rw[Bc h]at q
   rcases fA.1 q with q|q
   ·exact ih (n/10) (by omega) x q
   ·simp at q;omega
theorem yg (n:Nat):Bytes (qw n):= .of_mem fun x q=>by have:=MF n x q;omega
theorem Aq (n:Int):Bytes (LK n):=by
 unfold LK
 split
 ·exact .of_mem fun x q=>by
   rcases eF.1 q with rfl|q
   ·decide
   ·have:=MF _ x q;omega
 ·exact yg _
def mY:List Int→Nat
 |[]=>0
 |l=>l.foldl (fun a c=>a*10+(c-48).toNat) 0
theorem F2 (l:List Int):mY l=l.foldl (fun a c=>a*10+(c-48).toNat) 0:=by cases l<;>rfl
theorem JU (l:List Int) (c:Int):mY (l++[c])=mY l*10+(c-48).toNat:=by
 rw[F2,F2,l9];rfl
theorem Er {P:List Int→Prop} (h0:P []) (h1: ∀l c,P l→P (l++[c])) (l:List Int):P l:=by
 rw[←List.reverse_reverse l]
 induction l.reverse with
 |nil=>exact h0
 |cons c r ih=>rw[List.reverse_cons];exact h1 _ _ ih
theorem Ju: ∀(l:List Int),(∀x∈l,48≤x∧x≤57)→mY l<10^l.length:=fun l=>by
 induction l using Er with
 |h0=>intro _;decide
 |h1 l c ih=>
  intro h
  have h1:=ih (fun x q=>h x (lx _ q))
  have B:=h c (by simp)
  rw[JU,dS,eu,fO,Nat.pow_succ]
  omega
def m_:List Int→Nat
 |[]=>0
 |c::r=>if C7 c then m_ r+1 else 0
theorem Jr: ∀l,m_ l≤l.length
 |[]=>dQ _
 |c::r=>by
  have:=Jr r
  rw[m_];split<;>simp<;>omega
theorem Mo: ∀(l:List Int) (k:Nat),k<m_ l→C7 (l.getD k 0)=true
 |[],k,h=>absurd h (gU _)
 |c::r,k,h=>by
  rw[m_]at h
  split at h
  ·rename_i q
   cases k with
   |zero=>exact q
   |succ k=>exact Mo r k (by omega)
  ·exact absurd h (gU _)
def np:List Int→Nat
 |[]=>0
 |c::r=>if c=45 then(if 49≤r.getD 0 0∧r.getD 0 0≤57 then m_ r+1 else 0)else if c=48 then 1 else m_ (c::r)
def oh (l:List Int):Bool:=decide (l≠[]∧np l=l.length)
theorem Fw: ∀l,np l≤l.length
 |[]=>dQ _
 |c::r=>by
  have h1:=Jr r
  have q:=Jr (c::r)
  rw[np]
  split
  ·split
   ·simp;omega
   ·simp
  ·split
   ·simp
   ·exact q
def AllD (l:List Int):Prop:= ∀x∈l,48≤x∧x≤57
theorem AllD.at {l:List Int} (h:AllD l) (k:Nat) (q:k<l.length):48≤l.getD k 0∧l.getD k 0≤57:=by
 rw[dR,dZ q]
 exact h _ (fe q)
theorem AllD.of_at {l:List Int} (h: ∀k,k<l.length→48≤l.getD k 0∧l.getD k 0≤57):AllD l:=fun x B=>by
 obtain⟨k,q,rfl⟩:=i7.1 B
 have:=h k q
 rwa [dR,dZ q]at this
theorem Eb: ∀{l:List Int},AllD l→m_ l=l.length
 |[],_=>rfl
 |c::r,h=>by
  rw[m_,dP (ot.2 (h c (by simp))),Eb (fun x q=>h x (eE _ q))];rfl
theorem Km: ∀{l:List Int},m_ l=l.length→AllD l
 |[],_=>fun x q=>by cases q
 |c::r,h=>by
  rw[m_]at h
  by_cases B:C7 c=true
  ·rw[dP B]at h
   have:=Km (l:=r) (by simpa using h)
   intro x q
   rcases eF.1 q with rfl|q
   ·exact ot.1 B
   ·exact this x q
  ·rw[dN B]at h
   simp at h
theorem KC: ∀{l:List Int} (e:Int) (r:List Int),AllD l→C7 e=false→m_ (l++e::r)=l.length
 |[],e,r,_,he=>by rw[fs,m_,dN (by rw[he];decide)];rfl
 |c::l,e,r,h,he=>by
  rw[ff,m_,dP (ot.2 (h c (by simp))),KC e r (fun x q=>h x (eE _ q)) he];rfl
theorem Hn {l:List Int} (h:l.getD 0 0≠45):oh l=true↔AllD l∧(l.length=1∨1<l.length∧l.getD 0 0≠48):=by
 unfold oh
 rw[eb]
 cases l with
 |nil=>simp
 |cons c r=>
  rw[eA]at h⊢
  rw[np,dN h]
  by_cases q:c=48
  ·rw[dP q]
   constructor
   ·rintro⟨_,h1⟩
    have:r=[]:=ea (by simpa using h1.symm)
    subst this
    exact⟨fun x B=>by simp at B;omega,.inl rfl⟩
   ·rintro⟨_,h1|⟨_,h1⟩⟩
    ·exact⟨by simp,h1.symm⟩
    ·exact absurd q h1
  ·rw[dN q]
   constructor
   ·rintro⟨_,h1⟩
    refine⟨Km h1,?_⟩
    cases r with
    |nil=>exact .inl rfl
    |cons a t=>exact .inr ⟨by simp,q⟩
   ·rintro⟨h1,_⟩
    exact⟨by simp,Eb h1⟩
theorem L2 (r:List Int):oh (45::r)=true↔r≠[]∧r.getD 0 0≠48∧r.getD 0 0≠45∧oh r=true:=by
 have E:np (45::r)=if 49≤r.getD 0 0∧r.getD 0 0≤57 then m_ r+1 else 0:=by rw[np,dP rfl]
 have h0:oh (45::r)=true↔np (45::r)=r.length+1:=by
  unfold oh;rw[eb];simp
 rw[h0,E]
 constructor
 ·intro h
  split at h
  ·rename_i D
   have q:r≠[]:=fun e=>by rw[e]at D;simp at D
   have B:=Km (l:=r) (by omega)
   refine⟨q,by omega,by omega,(Hn (by omega)).2 ⟨B,?_⟩⟩
   have:=jf.2 q
   rcases eX 1 r.length with h1|h1
   ·exact .inr ⟨h1,by omega⟩
   ·exact .inl (by omega)
  ·omega
 ·rintro⟨q,I,G,F⟩
  obtain⟨B,_⟩:=(Hn G).1 F
  have:=B.at 0 (jf.2 q)
  rw[dP (by omega),Eb B]
theorem L9 {c:Int} {B:List Int} (h:AllD B):np (c::B)=if oh (c::B)=true then B.length+1 else if c=48 then 1 else 0:=by
 by_cases D:oh (c::B)=true
 ·rw[dP D]
  unfold oh at D
  rw[eb]at D
  rw[D.2];rfl
 ·rw[dN D]
  have q:np (c::B)≠B.length+1:=fun e=>D (by unfold oh;rw[eb];exact⟨by simp,by rw[e];rfl⟩)
  rw[np]at q⊢
  by_cases G:c=45
  ·subst G
   rw[dP rfl]at q⊢
   have I: ¬((45:Int)=48):=by decide
   rw[dN I]
   by_cases E:49≤B.getD 0 0∧B.getD 0 0≤57
   ·rw[dP E,Eb h]at q
    exact absurd rfl q
   ·rw[dN E]
  ·rw[dN G]at q⊢
   by_cases F:c=48
   ·rw[dP F,dP F]
   ·rw[dN F]at q⊢
    rw[dN F]
    rw[m_]at q⊢
    split
    ·rename_i E
     rw[dP E,Eb h]at q
     exact absurd rfl q
    ·rfl
theorem xO {c:Int} {D:List Int} (e:Int) (r:List Int) (h:AllD D) (E:C7 e=false):np (c::(D++e::r))=np (c::D):=by
 have F: ¬(48≤e∧e≤57):=rd.1 E
 rw[np,np,KC e r h E]
 by_cases B:c=45
 ·rw[dP B,dP B]
  cases D with
  |nil=>rw[fs,eA,dN (by omega)];rfl
  |cons a t=>
   rw[ff,eA,eA,Eb h]
 ·rw[dN B,dN B]
  by_cases q:c=48
  ·rw[dP q,dP q]
  ·rw[dN q,dN q,m_,m_,KC e r h E,Eb h]
theorem AY {c:Int} {B:List Int} (e:Int) (G:c≠48) (h:AllD (B++[e])) (D:oh (c::B)=true):oh (c::(B++[e]))=true:=by
 have I:AllD B:=fun x F=>h x (lx _ F)
 unfold oh at D⊢
 rw[eb]at D⊢
 refine⟨by simp,?_⟩
 have h1:=D.2
 rw[np]at h1⊢
 by_cases E:c=45
 ·rw[dP E]at h1⊢
  cases B with
  |nil=>simp at h1
  |cons a t=>
   rw[eA]at h1
   rw[ff,eA]
   by_cases q:49≤a∧a≤57
   ·rw[dP q,←ff,Eb h];simp
   ·rw[dN q]at h1;simp at h1
 ·rw[dN E,dN G]at h1⊢
  rw[m_]at h1⊢
  by_cases q:C7 c=true
  ·rw[dP q,Eb h];simp
  ·rw[dN q]at h1;simp at h1
theorem xP {l:List Int} {k:Nat} (F:k<l.length) (h:AllD ((l.take (k+1)).drop 1)):np (l.take (k+1))=if oh (l.take (k+1))=true then k+1 else np (l.take k):=by
 cases l with
 |nil=>simp at F
 |cons c r=>
  rw[io]at h⊢
  rw[lE,iu]at h
  have I:(r.take k).length=k:=by rw[ep];simp at F;omega
  rw[L9 h,I]
  by_cases q:oh (c::r.take k)=true
  ·rw[dP q,dP q]
  ·rw[dN q,dN q]
   cases k with
   |zero=>
    rw[jG,np]
    by_cases B:c=48
    ·subst B
     exact absurd (show oh (48::List.take 0 r)=true by rw[jG];decide) q
    ·rw[dN B]
   |succ k=>
    have L:k<r.length:=by simp at F;omega
    have N:r.take (k+1)=r.take k++[r[k]]:=by rw[eS L]
    rw[N]at h q
    have O:AllD (r.take k):=fun x G=>h x (lx _ G)
    rw[io,L9 O]
    by_cases E:oh (c::r.take k)=true
    ·by_cases B:c=48
     ·have M:k=0:=by
       subst B
       obtain⟨_,D⟩:=(Hn (by simp)).1 E
       rcases D with D|⟨_,D⟩
       ·rw[eu,ep]at D;omega
       ·exact absurd rfl D
      subst M
      rw[dP B,dP E];rfl
     ·exact absurd (AY _ B h E) q
    ·rw[dN E]
theorem uI {l:List Int} {k:Nat} (q:k<l.length) (h1:1≤k) (h:AllD ((l.take k).drop 1)) (B: ¬(48≤l.getD k 0∧l.getD k 0≤57)):np l=np (l.take k):=by
 cases l with
 |nil=>simp at q
 |cons c r=>
  obtain⟨j,rfl⟩: ∃j,k=j+1:=⟨k-1,by omega⟩
  rw[io]at h⊢
  rw[lE,iu]at h
  have D:j<r.length:=by simp at q;omega
  have F:r=r.take j++r[j]::r.drop (j+1):=by rw[List.getElem_cons_drop,gu]
  have E:(c::r).getD (j+1) 0=r[j]:=by rw[fy,dR,dZ D];rfl
  rw[E]at B
  have:=xO (c:=c) r[j] (r.drop (j+1)) h (rd.2 B)
  rw[←F]at this
  exact this
theorem Jz: ∀(l:List Int) (a:Nat),l.foldl (fun a c=>a*10+(c-48).toNat) a=a*10^l.length+mY l
 |[],a=>by rw[F2];simp
 |c::r,a=>by
  rw[lz,Jz r,F2 (c::r),lz,Jz r,eu,Nat.pow_succ]
  rw[lu,k7,eL,Nat.mul_assoc,mC 10]
  omega
theorem K4 (c:Int) (r:List Int):mY (c::r)=(c-48).toNat*10^r.length+mY r:=by
 rw[F2,lz,Jz,k7,eL]
def xL:List Int→List Int→Bool
 |_,[]=>false
 |[],_::_=>true
 |a::x,b::y=>decide (a<b)||(decide (a=b)&&xL x y)
theorem uD: ∀{a b:List Int},AllD a→AllD b→a.length=b.length→xL a b=decide (mY a<mY b)
 |[],[],_,_,_=>rfl
 |a::x,b::y,ha,hb,hl=>by
  have B:x.length=y.length:=by simpa using hl
  have F:AllD x:=fun z hz=>ha z (eE _ hz)
  have E:AllD y:=fun z hz=>hb z (eE _ hz)
  have h1:=ha a (by simp)
  have Q:=hb b (by simp)
  have G:=Ju x F
  have M:=Ju y E
  rw[xL,uD F E B,K4,K4,B]
  rw[B]at G
  obtain⟨m,N⟩: ∃m:Nat,a=48+(m:Int):=⟨(a-48).toNat,by omega⟩
  obtain⟨k,O⟩: ∃k:Nat,b=48+(k:Int):=⟨(b-48).toNat,by omega⟩
  have L:(a-48).toNat=m:=by omega
  have I:(b-48).toNat=k:=by omega
  rw[L,I]
  rw[iA,jx,fb,eb,eb,eb,eb]
  rcases Nat.lt_trichotomy m k with h|h|h
  ·have D:(m+1)*10^y.length≤k*10^y.length:=iX _ h
   rw[lu,me]at D
   exact⟨fun _=>by omega,fun _=> .inl (by omega)⟩
  ·subst h
   exact⟨fun q=>by rcases q with q|⟨_,q⟩<;>omega,fun q=> .inr ⟨by omega,by omega⟩⟩
  ·have D:(k+1)*10^y.length≤m*10^y.length:=iX _ h
   rw[lu,me]at D
   exact⟨fun q=>by rcases q with q|⟨q,_⟩<;>omega,fun q=>by omega⟩
def qj (a b:List Int):Bool:=if a.length≠b.length then decide (a.length<b.length)else xL a b
theorem yO {l:List Int} (h:49≤l.getD 0 0):10^(l.length-1)≤mY l:=by
 cases l with
 |nil=>simp at h
 |cons c r=>
  rw[eA]at h
  rw[K4,eu,jr]
  have:1*10^r.length≤(c-48).toNat*10^r.length:=iX _ (by omega)
  omega
theorem JM {a b:List Int} (B:AllD a) (q:AllD b) (h0:49≤a.getD 0 0) (h1:49≤b.getD 0 0∨b.length=1) (N:2≤a.length):qj a b=decide (mY a<mY b):=by
 unfold qj
 have L:=Ju a B
 have I:=Ju b q
 have G:=yO h0
 split
 ·rename_i M
  rcases eX a.length b.length with h|h
  ·have F:=yO (h1.resolve_right (by omega))
   have D:10^a.length≤10^(b.length-1):=lw (by decide) (by omega)
   rw[ec h,ec (by omega)]
  ·have D:10^b.length≤10^(a.length-1):=lw (by decide) (by omega)
   rw[dT (by omega),dT (by omega)]
 ·rename_i E
  exact uD B q (by simpa using E)
theorem Nk: ∀(a b:List UInt8),Op.bytesLess a b=xL (a.map fun x=>(x.toNat:Int)) (b.map fun x=>(x.toNat:Int))
 |[],[]=>rfl
 |_::_,[]=>rfl
 |[],_::_=>rfl
 |a::x,b::y=>by
  rw[Op.bytesLess,Nk x y,gZ,gZ,xL]
  congr 1
  ·rw[iA,eb,eb,UInt8.lt_iff_toNat_lt];omega
  ·congr 1
   rw[iA,gm,eb]
   constructor
   ·rintro rfl;rfl
   ·intro h;exact lA.1 (by omega)
theorem NB (s t:ByteArray):Op.bytesLess s.toList t.toList=xL (a_ s) (a_ t):=by
 rw[eT,eT,Nk];rfl
theorem BX (a b:List Int):mY (a++b)=mY a*10^b.length+mY b:=by
 rw[F2,l9,Jz,←F2]
theorem LB (l:List Int) (k:Nat):mY (l.take k)≤mY l:=by
 have h:=BX (l.take k) (l.drop k)
 rw[gu]at h
 have:mY (l.take k)*1≤mY (l.take k)*10^(l.drop k).length:=Nat.mul_le_mul_left _ (Nat.pow_pos (by decide))
 omega
def oP (l:List Int):Int:=if l.getD 0 0=45 then-(mY (l.drop 1):Int)else(mY l:Int)
def oj (l:List Int) (least most:Int):Bool:=decide (-9223372036854775808≤oP l∧oP l≤9223372036854775807∧least≤oP l∧oP l≤most)
theorem Iv {l:List Int} (h:oh l=true):(l.getD 0 0=45∧AllD (l.drop 1)∧49≤(l.drop 1).getD 0 0∧l=45::l.drop 1)∨(l.getD 0 0≠45∧AllD l∧l≠[]∧(49≤l.getD 0 0∨l.length=1)):=by
 by_cases B:l.getD 0 0=45
 ·cases l with
  |nil=>simp at B
  |cons c r=>
   rw[eA]at B
   subst B
   obtain⟨D,h1,F,E⟩:=(L2 r).1 h
   obtain⟨q,_⟩:=(Hn F).1 E
   have:=q.at 0 (jf.2 D)
   exact .inl ⟨rfl,q,by show 49≤r.getD 0 0;omega,rfl⟩
 ·obtain⟨q,h1⟩:=(Hn B).1 h
  have D:l≠[]:=fun e=>by subst e;simp at h1
  refine .inr ⟨B,q,D,?_⟩
  rcases h1 with h1|⟨_,h1⟩
  ·exact .inr h1
  ·have:=q.at 0 (jf.2 D)
   exact .inl (by omega)
end Go.Proofs.YtceddodfddlncaaGreatDoor
namespace Go.Proofs.YtceddodfddlncaaGreatDoor
open Go Go.RowKit Go.Maps Tryz
theorem B4:Keyed prog 9:=string_keyed ew
theorem BN (w:World):(zeroValue 196).run prog w= .ok (.agg #[]) w:=by kernel_rfl
theorem rQ (n:Nat) (w:World):(Instr.makeMap 195 (some (.int .i64 (n:Int)))).run prog w= .ok (.map (some w.heap.size)) (w.alloc (.map #[] 0)):=by
 unfold Instr.makeMap
 simp[fF,i8 l4,asInt]
 rfl
def qg (ns:List ByteArray):DataW Unit:=setOf (.agg []) (ns.map fun x=>Lit.string (EO x))
theorem De (q:List ByteArray) (x:ByteArray):Maps.has (qg q) (.string (EO x))=pD q x:=by
 unfold qg
 rw[has_setOf _ _ _ (by intro y hy;obtain⟨z,_,rfl⟩:=jN.1 hy;trivial),List.any_map]
 unfold pD
 congr 1
 funext y
 show(Lit.string (EO y)).sameKey (.string (EO x))=(y.toList==x.toList)
 rw[Md,Md];rfl
theorem Ae (q:List ByteArray) (x:ByteArray):qg (q++[x])=(qg q).put (.string (EO x)) (.agg []):=by
 unfold qg
 rw[gl,lU,setOf_snoc]
theorem IS (x:ByteArray) (h:x.size≤1000000000):keyOf prog 9 (.string x)=some (.string (EO x)):=Go.WideMaps.keyOf_string_mk ew (by unfold maxLen;omega)
def SetAt (w:World) (vb mb:Nat) (ns:List ByteArray):Prop:=w.cell? ⟨vb,0,none⟩=some (.map (some mb))∧vb<w.heap.size∧mb<w.heap.size∧ ∃n,w.ownsMap prog 9 unitElem mb n (qg ns)
theorem SetAt.below {w w':World} {B D:Nat} {E:List ByteArray} (h:SetAt w B D E) (q:Below w.heap.size w w'):SetAt w' B D E:=by
 obtain⟨h1,G,F,n,M,N,L,I⟩:=h
 exact⟨(q.cell (p:=⟨B,0,none⟩) G).trans h1,dX G q.size,dX F q.size,n,M,N,by rw[q.block D F];exact L,I⟩
theorem C6 (B D:Nat) (q:List ByteArray) (x:ByteArray) (w:World) (h:SetAt w B D q) (F:x.size≤1000000000):
  Calls prog 131 #[.string x,.pointer (some ⟨B,0,none⟩)] w fun e w'=>e= .returned (.bool (pD q x))∧Below w.heap.size w w':=by
 obtain⟨h1,O,N,n,E⟩:=h
 have G:Hid (Maps.has (qg q) (.string (EO x))=pD q x):=dM (De q x)
 have I:=dM E
 have L:=dM (IS x F)
 have M:=dM (fun o=>nO w o)
 clear E
 go_enter func131,ntmps131
 go_wp2_with(at_lookup;refine wpList_lookup_own_unit _ rfl _ _ 195 rfl 9 196 B4 l4 (BN _) D n _ rfl I.out _ _ rfl L.out ?_;rw[G.out])
 go_ret
 exact⟨rfl,M.out _⟩
theorem Br (v:Value) (q:List ByteArray) (w:World) (h:yy w v q) (hn:q.length≤1000000000):
  Calls prog 96 #[v] w fun e w'=> ∃E mb,e= .returned (.func (.func 131) #[] #[.pointer (some ⟨E,0,none⟩)])∧w.heap.size≤E∧SetAt w' E mb q∧Below w.heap.size w w':=by
 obtain⟨A,c,rfl,hc,Q,N⟩:=h
 obtain⟨n,F⟩:=yaa q.length
 rw[←F]at hc hn⊢
 have X:=dM F
 have HL:=dM Q
 have ae:=dM N
 have ah:=rQ n
 have af:Hid (∀W:World,(W.alloc (.map #[] 0)).ownsMap prog 9 unitElem W.heap.size 0 (qg [])):=dM (fun W=>World.ownsMap_made _ _ _ _)
 clear F Q N
 go_enter func96,ntmps96
 go_wp2
 go_loopw[11] (fun i wr=> ∃k:Nat,k≤n∧i= .int .i64 (k:Int)∧wr.ownsMap prog 9 unitElem w.heap.size k (qg (q.take k))∧wr.cell? ⟨w.heap.size+1,0,none⟩=some (.map (some w.heap.size))∧Below w.heap.size w wr∧w.heap.size+2≤wr.heap.size) (fun i _=>n-(intOf i).toNat)
 case atStart=>
  refine⟨0,eN _,rfl,?_,by simp,?_,by simp⟩
  ·rw[jG]
   exact(af.out w).alloc _
  ·exact(nO w _).alloc (by simp) _
 case round=>
  obtain⟨k,hk,rfl,M,L,R,ag⟩:=hrel
  have V:=dM M
  have D:=dM R
  clear M R
  by_cases O:k<n
  ·have B:k<q.length:=by rw[←X.out];exact O
   obtain⟨b,o,rfl,_,ad⟩:=(HL.out.below D.out).at B
   have ai:(0:Int)≤(k:Int):=by omega
   have U:Hid (qg (q.take (k+1))=(qg (q.take k)).put (.string (EO q[k])) (.agg [])):=dM (by rw[eS B,Ae])
   have Y:=dM (IS q[k] (ae.out _ (fe B)))
   obtain⟨x,I⟩:=yaa (q[k])
   rw[←I]at ad U Y
   clear I B
   go_wp2_with(at_mapUpdate;refine wpList_mapUpdate_own _ rfl _ _ _ 195 rfl 9 196 B4 l4 (unitElem (H:=Unit)) w.heap.size k _ rfl V.out (by unfold maxLen;omega) _ _ _ rfl rfl Y.out _ [] unitElem_mk ?_;intro Z ab G)
   have h1:=G.size
   have aa:Z.cell? ⟨w.heap.size+1,0,none⟩=some (.map (some w.heap.size)):=by
    rw[←L];unfold World.cell?
    rw[G.block (w.heap.size+1) (by omega) (by simp)]
   go_roundw
   case rel=>exact⟨k+1,by omega,by go_num,by rw[U.out];exact ab,aa,D.out.grown G D.out.size (fun j hj=>by cases hj;exact dQ _),by omega⟩
   case measure=>simp[intOf];omega
  ·obtain rfl:k=n:=by omega
   have HT:Hid (q.take k=q):=dM (by rw[X.out];exact g9)
   clear O
   go_wp2
   go_ret
   refine⟨w.heap.size+1,w.heap.size,rfl,by omega,⟨L,by omega,by omega,k,?_⟩,D.out⟩
   have:=V.out
   rwa [HT.out]at this
end Go.Proofs.YtceddodfddlncaaGreatDoor
namespace Go.Proofs.YtceddodfddlncaaGreatDoor
open Go Go.RowKit Go.Shelf Tryz
theorem E8: ∀args w,(callFunc 131 args).run prog w= .ok (.enter 131 args) w:=gJ func131 (by kernel_rfl) rfl
theorem tt (A:Option Addr) (c:Nat) (I:Value) (a b:List ByteArray) (w:World) (hl:LiesN w A a) (Y:Jh a) (hb:yy w I b) (hn:a.length≤1000000000) (ad:b.length≤1000000000):
  Calls prog 65 #[.slice A a.length c,I] w fun e w'=>e= .returned (.bool (a.all (pD b)))∧Below w.heap.size w w':=by
 obtain⟨n,L⟩:=yaa a.length
 rw[←L]at hn⊢
 have HN:=dM L
 have HL:=dM hl
 have ag:=dM Y
 have HM:=dM (Br I b w hb ad)
 have eg:=E8
 obtain⟨R,M⟩:=yaa (a.all (pD b))
 rw[←M]
 have HR:=dM M
 clear hb L hl Y M
 go_enter func65,ntmps65
 go_wp2_with fail
 refine HM.out.mono ?_
 rintro e U ⟨bx,mb,rfl,ah,W,ab⟩
 have af:=dM W
 have F:=dM ab
 clear W ab HM
 go_wp2
 go_loopw[12] (fun i wr=> ∃k:Nat,k≤n∧i= .int .i64 (k:Int)∧R=(a.drop k).all (pD b)∧Below U.heap.size U wr) (fun i _=>n-(intOf i).toNat)
 case atStart=>exact⟨0,eN _,rfl,HR.out,dU _ _⟩
 case round=>
  obtain⟨k,hk,rfl,X,aa⟩:=hrel
  have q:=dM aa
  have N:=dM X
  clear aa X
  by_cases Z:k<n
  ·have G:k<a.length:=by rw[←HN.out];exact Z
   obtain⟨b',o,rfl,_,ae⟩:=((HL.out.below F.out).below q.out).at G
   have ai:(0:Int)≤(k:Int):=by omega
   have O:Hid (a.drop k=a[k]::a.drop (k+1)):=dM (eD G)
   have E:=dM (C6 bx mb b a[k] wr (af.out.below q.out) (ag.out _ (fe G)))
   obtain⟨x,V⟩:=yaa (a[k])
   rw[←V]at ae O E
   clear V G
   cases hp:pD b x with
   |true=>
    rw[hp]at E
    have D:Hid (R=(a.drop (k+1)).all (pD b)):=dM (by rw[N.out,O.out,lj,hp,lq])
    clear hp
    go_wp2_with fail
    refine E.out.mono ?_
    rintro e w2 ⟨rfl,B⟩
    have Q:=yab q B
    clear B
    go_wp2
    go_roundw
    case rel=>exact⟨k+1,by omega,by go_num,D.out,Q.out⟩
    case measure=>simp[intOf];omega
   |false=>
    rw[hp]at E
    have D:Hid (R=false):=dM (by rw[N.out,O.out,lj,hp,iv])
    clear hp
    go_wp2_with fail
    refine E.out.mono ?_
    rintro e w2 ⟨rfl,B⟩
    have Q:=yab q B
    clear B
    go_wp2
    go_ret
    exact⟨yL D.out.symm,F.out.trans (Q.out.mono F.out.size)⟩
  ·obtain rfl:k=n:=by omega
   have D:Hid (R=true):=dM (by rw[N.out,HN.out,List.drop_length];rfl)
   clear Z
   go_wp2
   go_ret
   exact⟨yL D.out.symm,F.out.trans (q.out.mono F.out.size)⟩
end Go.Proofs.YtceddodfddlncaaGreatDoor
