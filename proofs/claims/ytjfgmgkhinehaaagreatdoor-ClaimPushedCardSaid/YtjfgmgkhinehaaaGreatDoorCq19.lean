
import Derived.WalkLawsBesides
import Derived.WalkSpells
import Derived.Handy
import Derived.RegionTactic
import Derived.LoopTactic
import Derived.StillTailTactics
import Derived.Shelf.Strings.Builder1
import Derived.Shelf.Small.Bits
import Derived.Shelf.Small.Strs
import Derived.Shelf.Small.Wraps
import Derived.Shelf.Strings.BuilderF
import Derived.Shelf.Strings.BuilderK
import Derived.Shelf.Strconv.Itoa0
import Derived.Shelf.LaysM
import Derived.Shelf.Strconv.Clone
import Derived.Shelf.Strings.Search1
import Derived.Shelf.Strings.Search2
import Derived.Shelf.Strings.Cut
import Derived.Shelf.Strings.Shaped
import Derived.Shelf.Sort.Plain
import Derived.Shelf.Strings.Prefix
import Derived.Shelf.Slices.Turned
import Derived.Shelf.Slices.Equal
import Derived.Ground.Names2Prog
import Derived.Shelf.Slices.Clone
import Derived.Shelf.Slices.CompactS
import Derived.Shelf.Slices.Cells
import Derived.Shelf.Slices.In.SortNone
import Derived.Shelf.Slices.Empties2
import Derived.Ground.SlgnProg
import Derived.Shelf.SlicesE.Clone
import Derived.RangeFuncNested
import Derived.RangeFuncBound
import Derived.RangeFuncCalls
import Derived.RangeFuncLeaves
import Derived.Shelf.RegionOpen
import Derived.OwnWalkIn
import Derived.TacticsInMore
import Derived.LoopNIn
import Derived.LoopIn
import Derived.RangeFuncBox
import Derived.Test.YtjfgmgkhinehaaaGreatDoorCq01
set_option maxRecDepth 100000
set_option maxHeartbeats 16000000
set_option linter.all false
namespace Go.Proofs.YtjfgmgkhinehaaaGreatDoor
open Go Go.RowKit
def utfS (s:ByteArray):Bool:=decide (badU (strL s)=(strL s).length)
def zcc (kind n:Int) (s:ByteArray) (p q:Nat):Bool:=
 (decide (kind=1)||decide (kind=2)||decide (n=0))&&(decide (kind=3)||decide (s=⟨#[]⟩))&&(decide (kind=5)||decide (kind=4)||decide (p=0))&&(decide (kind=5)||decide (q=0))
theorem zal (kind n:Int) (s:ByteArray) (p q:Nat):zcc kind n s p q=((decide (kind=1)||decide (kind=2)||decide (n=0))&&(decide (kind=3)||decide (s=⟨#[]⟩))&&(decide (kind=5)||decide (kind=4)||decide (p=0))&&(decide (kind=5)||decide (q=0))):=rfl
def rnL:Option ByteArray→List ByteArray→Bool
 |_,[]=>true
 |p,t::r=>utfS t&&(match p with|none=>true|some q=>Op.bytesLess q.toList t.toList)&&rnL (some t) r
theorem zbi (p:Option ByteArray) (t:ByteArray) (r:List ByteArray):rnL p (t::r)=(utfS t&&(match p with|none=>true|some q=>Op.bytesLess q.toList t.toList)&&rnL (some t) r):=by cases p<;>rfl
theorem znX (p:Option ByteArray):rnL p []=true:=by cases p<;>rfl
def zdu (kind n:Int) (s:ByteArray):Bool:=
 if kind=0 then true else if kind=1 then decide (n=0)||decide (n=1)else if kind=2 then decide (-9007199254740991≤n)&&decide (n≤9007199254740991)else if kind=3 then utfS s else false
mutual
def rgt:J→Int→Int→Bool×Int
 | .mk kind n s l k,d,left=>
  if left-1<0∨zcc kind n s l.length k.length=false then(false,left-1)
  else if kind=5∧(k.length≠l.length∨rnL none k=false)then(false,left-1)
  else if kind=4∨kind=5 then(if d≤8 then zcx l (d+1) (left-1)else(false,left-1))
  else(zdu kind n s,left-1)
def zcx:List J→Int→Int→Bool×Int
 |[],_,left=>(true,left)
 |x::r,d,left=>if(rgt x d left).1=true then zcx r d (rgt x d left).2 else(false,(rgt x d left).2)
end
inductive Mild:J→Prop
 |mk (kind n:Int) (s:ByteArray) (l:List J) (k:List ByteArray):s.size≤1000000000→(∀t∈k,t.size≤1000000000)→(∀x∈l,Mild x)→Mild (.mk kind n s l k)
end Go.Proofs.YtjfgmgkhinehaaaGreatDoor
namespace Go.Proofs.YtjfgmgkhinehaaaGreatDoor
open Go
inductive Rt:J→Prop
 |mk (kind n:Int) (s:ByteArray) (l:List J) (k:List ByteArray):zcc kind n s l.length k.length=true→(kind=5→k.length=l.length∧rnL none k=true)→(kind=4∨kind=5∨zdu kind n s=true)→(∀x∈l,Rt x)→Rt (.mk kind n s l k)
mutual
def szJ:J→Nat
 | .mk _ _ _ l _=>1+szLs l
def szLs:List J→Nat
 |[]=>0
 |x::r=>szJ x+szLs r
end
mutual
def dpJ:J→Nat
 | .mk kind _ _ l _=>if kind=4∨kind=5 then 1+dpLs l else 0
def dpLs:List J→Nat
 |[]=>0
 |x::r=>max (dpJ x) (dpLs r)
end
theorem zmr: ∀(a b:List J),szLs (a++b)=szLs a+szLs b
 |[],b=>by rw[List.nil_append,szLs,Nat.zero_add]
 |x::a,b=>by rw[List.cons_append,szLs,szLs,zmr a b,Nat.add_assoc]
theorem dpLs_le {d:Nat}: ∀(l:List J),dpLs l≤d↔ ∀x∈l,dpJ x≤d
 |[]=>by rw[dpLs];simp
 |x::r=>by
  rw[dpLs,Nat.max_le,dpLs_le r]
  simp
theorem szLs_perm {a b:List J} (h:a.Perm b):szLs a=szLs b:=by
 induction h with
 |nil=>rfl
 |cons x _ ih=>rw[szLs,szLs,ih]
 |swap x y l=>rw[szLs,szLs,szLs,szLs];omega
 |trans _ _ h1 h2=>rw[h1,h2]
theorem szJ_pos (j:J):1≤szJ j:=by cases j;rw[szJ];omega
theorem leaf_kind {kind n:Int} {s:ByteArray} (h:zdu kind n s=true):kind=0∨kind=1∨kind=2∨kind=3:=by
 unfold zdu at h
 by_cases h0:kind=0
 ·exact .inl h0
 by_cases h1:kind=1
 ·exact .inr (.inl h1)
 by_cases h2:kind=2
 ·exact .inr (.inr (.inl h2))
 by_cases h3:kind=3
 ·exact .inr (.inr (.inr h3))
 rw[if_neg h0,if_neg h1,if_neg h2,if_neg h3]at h
 cases h
theorem clean_l {kind n:Int} {s:ByteArray} {p q:Nat} (h:zcc kind n s p q=true) (h4:kind≠4) (h5:kind≠5):p=0∧q=0:=by
 rw[zal]at h
 simp only[Bool.and_eq_true,Bool.or_eq_true,decide_eq_true_eq]at h
 omega
theorem clean_q {kind n:Int} {s:ByteArray} {p q:Nat} (h:zcc kind n s p q=true) (h5:kind≠5):q=0:=by
 rw[zal]at h
 simp only[Bool.and_eq_true,Bool.or_eq_true,decide_eq_true_eq]at h
 omega
theorem rgt_iff (j:J): ∀(d left:Int),1≤d→d≤9→0≤left→((rgt j d left).1=true↔Rt j∧(szJ j:Int)≤left∧d-1+(dpJ j:Int)≤8)∧((rgt j d left).1=true→(rgt j d left).2=left-(szJ j:Int)):=by
 induction j using J.ind with
 |h kind n s l k ih=>
  intro d left d1 d9 h0
  have key: ∀(l:List J),(∀x∈l,∀(d left:Int),1≤d→d≤9→0≤left→((rgt x d left).1=true↔Rt x∧(szJ x:Int)≤left∧d-1+(dpJ x:Int)≤8)∧((rgt x d left).1=true→(rgt x d left).2=left-(szJ x:Int)))→
    ∀(d left:Int),1≤d→d≤9→0≤left→((zcx l d left).1=true↔(∀x∈l,Rt x)∧(szLs l:Int)≤left∧d-1+(dpLs l:Int)≤8)∧((zcx l d left).1=true→(zcx l d left).2=left-(szLs l:Int)):=fun l=>by
   induction l with
   |nil=>
    intro _ d left d1 d9 h0
    rw[zcx,szLs,dpLs]
    refine⟨⟨fun _=>⟨fun x hx=>(by cases hx),by simpa using h0,by simp;omega⟩,fun _=>rfl⟩,fun _=>by simp⟩
   |cons x r ihr=>
    intro ih d left d1 d9 h0
    obtain⟨i1,i2⟩:=ih x (by simp) d left d1 d9 h0
    rw[zcx,szLs,dpLs]
    cases hb:(rgt x d left).1 with
    |false=>
     rw[if_neg (by simp)]
     rw[hb]at i1
     refine⟨⟨fun h=>(by cases h),fun⟨h1,h2,h3⟩=> ?_⟩,fun h=>(by cases h)⟩
     exact i1.2 ⟨h1 x (by simp),by omega,by omega⟩
    |true=>
     rw[if_pos rfl]
     obtain⟨e1,e2,e3⟩:=i1.1 hb
     have e4:=i2 hb
     rw[e4]
     obtain⟨r1,r2⟩:=ihr (fun y hy=>ih y (List.mem_cons_of_mem _ hy)) d (left-szJ x) d1 d9 (by omega)
     refine⟨⟨fun h=> ?_,fun⟨h1,h2,h3⟩=> ?_⟩,fun h=>by rw[r2 h];omega⟩
     ·obtain⟨g1,g2,g3⟩:=r1.1 h
      refine⟨fun y hy=> ?_,by omega,by omega⟩
      rcases List.mem_cons.1 hy with rfl|hy
      ·exact e1
      ·exact g1 y hy
     ·exact r1.2 ⟨fun y hy=>h1 y (List.mem_cons_of_mem _ hy),by omega,by omega⟩
  rw[rgt,szJ,dpJ]
  by_cases c1:left-1<0∨zcc kind n s l.length k.length=false
  ·rw[if_pos c1]
   refine⟨⟨fun h=>(by cases h),fun⟨h1,h2,h3⟩=> ?_⟩,fun h=>by cases h⟩
   rcases c1 with c1|c1
   ·omega
   ·cases h1 with|mk _ _ _ _ _ a1 a2 a3 a4=>rw[c1]at a1;cases a1
  rw[if_neg c1]
  have hcl:zcc kind n s l.length k.length=true:=by
   cases h:zcc kind n s l.length k.length with
   |true=>rfl
   |false=>exact absurd (.inr h) c1
  by_cases c2:kind=5∧(k.length≠l.length∨rnL none k=false)
  ·rw[if_pos c2]
   refine⟨⟨fun h=>(by cases h),fun⟨h1,h2,h3⟩=> ?_⟩,fun h=>by cases h⟩
   cases h1 with
   |mk _ _ _ _ _ a1 a2 a3 a4=>
    obtain⟨b1,b2⟩:=a2 c2.1
    rcases c2.2 with c|c
    ·exact absurd b1 c
    ·rw[b2]at c;cases c
  rw[if_neg c2]
  have h5:kind=5→k.length=l.length∧rnL none k=true:=fun h=>by
   refine⟨Decidable.byContradiction fun hn=>c2 ⟨h,.inl hn⟩,?_⟩
   cases hr:rnL none k with
   |true=>rfl
   |false=>exact absurd ⟨h,.inr hr⟩ c2
  by_cases c3:kind=4∨kind=5
  ·rw[if_pos c3,if_pos c3]
   by_cases c4:d≤8
   ·rw[if_pos c4]
    obtain⟨r1,r2⟩:=key l ih (d+1) (left-1) (by omega) (by omega) (by omega)
    refine⟨⟨fun h=> ?_,fun⟨h1,h2,h3⟩=> ?_⟩,fun h=>by rw[r2 h];omega⟩
    ·obtain⟨g1,g2,g3⟩:=r1.1 h
     exact⟨.mk kind n s l k hcl h5 (c3.imp_right .inl) g1,by omega,by omega⟩
    ·cases h1 with|mk _ _ _ _ _ a1 a2 a3 a4=>exact r1.2 ⟨a4,by omega,by omega⟩
   ·rw[if_neg c4]
    refine⟨⟨fun h=>(by cases h),fun⟨h1,h2,h3⟩=> ?_⟩,fun h=>by cases h⟩
    omega
  ·rw[if_neg c3,if_neg c3]
   have hlq:=clean_l hcl (fun h=>c3 (.inl h)) (fun h=>c3 (.inr h))
   have hl0:l=[]:=List.eq_nil_of_length_eq_zero hlq.1
   subst hl0
   rw[szLs]
   refine⟨⟨fun h=>⟨.mk kind n s [] k hcl h5 (.inr (.inr h)) (fun x hx=>(by cases hx)),by omega,by omega⟩,fun⟨h1,h2,h3⟩=> ?_⟩,fun _=>by simp⟩
   cases h1 with
   |mk _ _ _ _ _ a1 a2 a3 a4=>
    rcases a3 with a|a|a
    ·exact absurd (.inl a) c3
    ·exact absurd (.inr a) c3
    ·exact a
theorem zfq (j:J):(rgt j 1 256).1=true↔Rt j∧szJ j≤256∧dpJ j≤8:=by
 rw[(rgt_iff j 1 256 (by decide) (by decide) (by decide)).1]
 constructor
 ·rintro⟨a,b,c⟩;exact⟨a,by omega,by omega⟩
 ·rintro⟨a,b,c⟩;exact⟨a,by omega,by omega⟩
end Go.Proofs.YtjfgmgkhinehaaaGreatDoor
