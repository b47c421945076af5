
import Derived.Test.YtjfgmgkhinehaaaGreatDoorCf01
import Derived.Test.YtjfgmgkhinehaaaGreatDoorCf09
set_option linter.all false
namespace Go.Proofs.YtjfgmgkhinehaaaGreatDoor
open Go Go.RowKit
section
variable {w w':World} {g:Nat} {t:TypeId} {cs:List Value}
end
theorem set_ints (k:IntKind) (l:List Int) (i:Nat) (x:Int):(ints k l).set i (.int k x)=ints k (l.set i x):=by simp[ints,List.map_set]
section
variable {P:Program} {w:World} {ops:Array Oper} {rest:List Oper} {o:Oper} {a:Act} {Q:Exit→Act→World→Prop}
theorem wpList_store_cell (hgd:o.guard=none) (d:Option Tmp) (hdst:o.dst=d) (ty:TypeId) (x y:Operand) (ho:o.op= .store ty x y)
  (g off:Nat) (v:Value) (hx:a.eval x= .pointer (some ⟨g,off,none⟩)) (hy:a.eval y=v) (hv:v.oneCell'=true)
  (t:TypeId) (cs:List Value) (hb:Blk w g t cs) (hl:off<cs.length)
  (hi:(P.info? ty).map (·.size)=some 1)
  (h: ∀w',Blk w' g t (cs.set off v)→w.grownBy w' (some g)→wpList P ops Q rest (a.put d undef) w'):wpList P ops Q (o::rest) a w:=by
 subst hdst
 refine wpList_plain hgd fun K hK=> ?_
 have hc:w.cell? ⟨g,off,none⟩=some cs[off]:=(hb.cell off).trans (List.getElem?_eq_getElem hl)
 have hf:=hb.frozen off
 have hcv:v.cells= #[v]:=by cases v<;>first|rfl|cases hv
 have hst:(storeVar ty ⟨g,off,none⟩ v).run P w= .ok () (w.setCell ⟨g,off,none⟩ v):=by
  cases hq:P.info? ty with
  |none=>simp[hq]at hi
  |some i=>
   have hs:i.size=1:=by simpa[hq]using hi
   have hadd:(⟨g,off,none⟩:Addr).add 0=⟨g,off,none⟩:=by unfold Addr.add;split<;>simp_all
   have hst':(store ⟨g,off,none⟩ v .plain).run P w= .ok () (w.setCell ⟨g,off,none⟩ v):=by
    rw[run_store P w _ v _ hv]
    simp[hc,hf]
   simp[storeVar,sizeOf,typeInfo,hq,hcv,hs,storeCells,hadd,hst']
 unfold Oper.wp execOp
 simp only[ho,hx,hy,Instr.storeAt,Instr.sureAddr,Sem.run_bind,Sem.run_pure,Result.andThen_ok,hst]
 refine hK _ _ (h _ ?_ ⟨rfl,rfl,rfl,by simp,fun k _ hk=>heap_setCell_other w ⟨g,off,none⟩ k v (fun e=>hk (by simp[e]))⟩)
 have:=heap_setCell_same w g off cs.toArray t v hb
 unfold Blk
 rw[this];simp
end
end Go.Proofs.YtjfgmgkhinehaaaGreatDoor
namespace Go.Proofs.YtjfgmgkhinehaaaGreatDoor
open Go Go.RowKit
theorem own_lies {w:World} {B e:Nat} {v:Value} {n:Nat} {xs:List Int} (h:w.ownsRow B e 1 v n (ints .u8 xs)) (hn:xs.length=n): ∃A c,v= .slice A n c∧n≤c∧Lies w A xs:=by
 have h0:=h
 rcases h.2 with⟨rfl,rfl⟩|⟨g,cap,cur,rfl,hb,hcell,hle,hm,_⟩
 ·exact⟨none,0,rfl,Nat.le_refl _,fun hp=>by omega⟩
 ·refine⟨_,cap,rfl,hle,fun _=>⟨g,0,rfl,?_,?_,fun j v hv=> ?_⟩⟩
  ·have:=(h0.lt g rfl).2;omega
  ·exact(h0.lt g rfl).2
  ·have hj:=(List.getElem?_eq_some_iff.1 hv).1
   rw[length_ints,hn]at hj
   rw[Nat.zero_add,h0.cellAt j (by omega)]
   exact hv
section
variable {P:Program} {w:World} {ops:Array Oper} {rest:List Oper} {o:Oper} {a:Act} {Q:Exit→Act→World→Prop}
end
end Go.Proofs.YtjfgmgkhinehaaaGreatDoor
namespace Go.Proofs.YtjfgmgkhinehaaaGreatDoor
open Go Go.RowKit
theorem setS_self {l:List ByteArray} (h:RiseS l):setS l=l:=(setS_eq h fun _=>Iff.rfl).symm
end Go.Proofs.YtjfgmgkhinehaaaGreatDoor
namespace Go.Proofs.YtjfgmgkhinehaaaGreatDoor
open Go Go.RowKit
theorem isD_false {c:Int}:isD c=false↔ ¬(48≤c∧c≤57):=by unfold isD;rw[decide_eq_false_iff_not]
def digL (n:Nat):List Int:=if h:n<10 then[48+(n:Int)]else digL (n/10)++[48+((n%10:Nat):Int)]
termination_by n
decreasing_by omega
theorem digL_one {n:Nat} (h:n<10):digL n=[48+(n:Int)]:=by rw[digL,dif_pos h]
theorem digL_more {n:Nat} (h: ¬n<10):digL n=digL (n/10)++[48+((n%10:Nat):Int)]:=by rw[digL,dif_neg h]
def prL (n:Int):List Int:=if n<0 then 45::digL n.natAbs else digL n.natAbs
theorem digL_digits: ∀(n:Nat),∀x∈digL n,48≤x∧x≤57:=fun n=>by
 induction n using Nat.strongRecOn with
 |_ n ih=>
  intro x hx
  by_cases h:n<10
  ·rw[digL_one h]at hx
   simp at hx;omega
  ·rw[digL_more h]at hx
   rcases List.mem_append.1 hx with hx|hx
   ·exact ih (n/10) (by omega) x hx
   ·simp at hx;omega
theorem digL_ne (n:Nat):digL n≠[]:=by
 by_cases h:n<10
 ·rw[digL_one h];simp
 ·rw[digL_more h];simp
theorem digL_first: ∀(n:Nat),0<n→49≤(digL n).getD 0 0:=fun n=>by
 induction n using Nat.strongRecOn with
 |_ n ih=>
  intro hn
  by_cases h:n<10
  ·rw[digL_one h];simp;omega
  ·rw[digL_more h]
   have h1:=ih (n/10) (by omega) (by omega)
   have hne:=digL_ne (n/10)
   obtain⟨c,r,hc⟩:=List.exists_cons_of_ne_nil hne
   rw[hc]at h1⊢
   simpa using h1
theorem digL_bytes (n:Nat):Bytes (digL n):= .of_mem fun x hx=>by have:=digL_digits n x hx;omega
theorem prL_bytes (n:Int):Bytes (prL n):=by
 unfold prL
 split
 ·exact .of_mem fun x hx=>by
   rcases List.mem_cons.1 hx with rfl|hx
   ·decide
   ·have:=digL_digits _ x hx;omega
 ·exact digL_bytes _
theorem digL_len: ∀(k n:Nat),n<10^(k+1)→(digL n).length≤k+1
 |0,n,h=>by rw[digL_one (by simpa using h)];simp
 |k+1,n,h=>by
  by_cases h':n<10
  ·rw[digL_one h'];simp
  ·rw[digL_more h',List.length_append]
   have:=digL_len k (n/10) (by rw[Nat.pow_succ]at h;omega)
   simp;omega
theorem valL_digL: ∀(n:Nat),valL (digL n)=n:=fun n=>by
 induction n using Nat.strongRecOn with
 |_ n ih=>
  by_cases h:n<10
  ·rw[digL_one h]
   show 0*10+(48+(n:Int)-48).toNat=n
   omega
  ·rw[digL_more h,valL_snoc,ih (n/10) (by omega)]
   omega
end Go.Proofs.YtjfgmgkhinehaaaGreatDoor
namespace Go.Proofs.YtjfgmgkhinehaaaGreatDoor
open Go Go.RowKit
theorem runL_app: ∀{l:List Int} (e:Int) (r:List Int),AllD l→isD e=false→runL (l++e::r)=l.length
 |[],e,r,_,he=>by rw[List.nil_append,runL,if_neg (by rw[he];decide)];rfl
 |c::l,e,r,h,he=>by
  rw[List.cons_append,runL,if_pos (isD_iff.2 (h c (by simp))),runL_app e r (fun x hx=>h x (List.mem_cons_of_mem _ hx)) he];rfl
theorem form_digL (n:Nat):formL (digL n)=true:=by
 have h1:=digL_digits n
 have hne:=digL_ne n
 have h0:=AllD.at (l:=digL n) h1 0 (List.length_pos_iff.2 hne)
 refine(formL_plain (by omega)).2 ⟨h1,?_⟩
 rcases Nat.eq_zero_or_pos n with h|h
 ·subst h;left;rw[digL_one (by decide)];rfl
 ·have:=digL_first n h
  rcases Nat.lt_or_ge 1 (digL n).length with h2|h2
  ·exact .inr ⟨h2,by omega⟩
  ·left
   have:=List.length_pos_iff.2 hne
   omega
theorem form_prL (n:Int):formL (prL n)=true:=by
 unfold prL
 split
 ·rename_i h
  have hpos:0<n.natAbs:=by omega
  have:=digL_first n.natAbs hpos
  exact(formL_dash _).2 ⟨digL_ne _,by omega,by omega,form_digL _⟩
 ·exact form_digL _
theorem numL_prL (n:Int):numL (prL n)=n:=by
 unfold prL numL
 split
 ·rename_i h
  rw[List.getD_cons_zero,if_pos rfl,List.drop_succ_cons,List.drop_zero,valL_digL];omega
 ·rename_i h
  have h0:=AllD.at (l:=digL n.natAbs) (digL_digits _) 0 (List.length_pos_iff.2 (digL_ne _))
  rw[if_neg (by omega),valL_digL];omega
end Go.Proofs.YtjfgmgkhinehaaaGreatDoor
namespace Go.Proofs.YtjfgmgkhinehaaaGreatDoor
open Go Go.RowKit
theorem name_size {x:ByteArray} (h:nameB (strL x)=true):x.size≤32:=by
 have:=(nameB_len h).2
 rwa [length_strL]at this
def textG:Bool→List ByteArray→List Int
 |_,[]=>[]
 |f,x::r=>(if f then[]else[32])++strL x++textG false r
theorem textG_bytes: ∀(l:List ByteArray) (f:Bool),Bytes (textG f l)
 |[],_=> .of_mem (by simp[textG])
 |x::r,f=>by
  simp only[textG]
  refine((Bytes.append ?_ (strL_bd x)).append (textG_bytes r false))
  cases f<;>exact .of_mem (by simp)
theorem textG_append: ∀(a b:List ByteArray) (f:Bool),textG f (a++b)=textG f a++textG (f&&a.isEmpty) b
 |[],b,f=>by simp[textG]
 |x::r,b,f=>by
  simp only[List.cons_append,textG,textG_append r b false,Bool.false_and,List.isEmpty_cons,Bool.and_false,List.append_assoc]
theorem textG_snoc {l:List ByteArray} {k:Nat} (h:k<l.length):textG true (l.take (k+1))=(textG true (l.take k)++(if k=0 then[]else[32]))++strL l[k]:=by
 rw[List.take_succ_eq_append_getElem h,textG_append]
 cases k with
 |zero=>simp[textG]
 |succ j=>
  have:(l.take (j+1)).isEmpty=false:=by
   rw[List.isEmpty_eq_false_iff]
   intro e
   have:=congrArg List.length e
   rw[List.length_take,List.length_nil]at this;omega
  rw[this]
  simp[textG]
theorem textG_len: ∀(l:List ByteArray) (f:Bool) (c:Nat),(∀x∈l,x.size≤c)→(textG f l).length≤l.length*(c+1)
 |[],_,_,_=>by simp[textG]
 |x::r,f,c,h=>by
  have ih:=textG_len r false c (fun y hy=>h y (List.mem_cons_of_mem _ hy))
  have hx:=h x List.mem_cons_self
  simp only[textG,List.length_append,length_strL,List.length_cons,Nat.add_mul,Nat.one_mul]
  have:(if f then([]:List Int)else[32]).length≤1:=by cases f<;>simp
  omega
theorem textG_take_len (l:List ByteArray) (k:Nat):(textG true (l.take k)).length≤(textG true l).length:=by
 have:textG true l=textG true (l.take k)++textG (true&&(l.take k).isEmpty) (l.drop k):=by rw[←textG_append,List.take_append_drop]
 rw[this,List.length_append];omega
theorem wordsU_names: ∀(l:List ByteArray),l≠[]→(∀x∈l,(32:UInt8) ∉ nmL x)→ ∀t,nmL t=(match l with|[]=>[]|x::r=>nmL x++r.flatMap (fun y=>32::nmL y))→wordsB t=l
 |[],h,_,_,_=>absurd rfl h
 |[x],_,hb,t,ht=>by
  simp at ht
  unfold wordsB
  rw[ht,wordsU_miss _ (hb x (by simp))]
  simp[ofL_nmL]
 |x::y::r,_,hb,t,ht=>by
  have ih:=wordsU_names (y::r) (by simp) (fun z hz=>hb z (List.mem_cons_of_mem _ hz)) (ofL (nmL y++r.flatMap (fun y=>32::nmL y))) (by rw[nmL_ofL])
  unfold wordsB at ih⊢
  rw[nmL_ofL]at ih
  have e:nmL t=nmL x++32::(nmL y++r.flatMap (fun y=>32::nmL y)):=by rw[ht];simp
  rw[e,wordsU_hit _ _ (hb x (by simp)),List.map_cons,ih,ofL_nmL]
end Go.Proofs.YtjfgmgkhinehaaaGreatDoor
namespace Go.Proofs.YtjfgmgkhinehaaaGreatDoor
open Go Go.RowKit
theorem greatN_not {ns:List ByteArray} (h:greatN ns=false):ns.length≤100∧ ∀x∈ns,x.size≤1000:=by
 unfold greatN at h
 rw[Bool.or_eq_false_iff,decide_eq_false_iff_not,List.any_eq_false]at h
 refine⟨by omega,fun x hx=> ?_⟩
 have:=h.2 x hx
 simp at this
 exact this
theorem RawN.slice {w:World} {v:Value} {ns:List ByteArray} (h:RawN w v ns) (hg:greatN ns=false):SliceN w v ns:=by
 obtain⟨A,c,e,hc,_,hl⟩:=h
 exact⟨A,c,e,hc,hl,fun x hx=>by have:=(greatN_not hg).2 x hx;omega⟩
theorem RawN.below {w w':World} {v:Value} {ns:List ByteArray} (h:RawN w v ns) (hb:Below w.heap.size w w'):RawN w' v ns:=by
 obtain⟨A,c,e,hc,h1,hl⟩:=h
 exact⟨A,c,e,hc,h1,hl.below hb⟩
end Go.Proofs.YtjfgmgkhinehaaaGreatDoor
