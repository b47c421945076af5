
import Derived.Laws.Cover1
import Derived.Test.YtjfgmgkhinehaaaGreatDoorCq15
set_option maxRecDepth 100000
set_option maxHeartbeats 16000000
set_option linter.all false
namespace Go.Proofs.YtjfgmgkhinehaaaGreatDoor
open Go Go.RowKit
section
variable {w w':World} {g:Nat} {t:TypeId} {cs:List Value}
theorem Blk.range (h:Blk w g t cs) (o:Nat) (ds:List Value) (hd: ∀j v,ds[j]? =some v→cs[o+j]? =some v):w.rangeAt g o ds:=fun j v hv=>by
 rw[h.cell];exact hd j v hv
end
section
variable {P:Program} {w:World} {ops:Array Oper} {rest:List Oper} {o:Oper} {a:Act} {Q:Exit→Act→World→Prop}
theorem zfm (hgd:o.guard=none) (d:Option Tmp) (hdst:o.dst=d) (ty:TypeId) (x:Operand) (ho:o.op= .load ty x)
  (g off:Nat) (hx:a.eval x= .pointer (some ⟨g,off,none⟩)) (t:TypeId) (cs:List Value) (hb:Blk w g t cs) (ds:List Value)
  (hds: ∀j v,ds[j]? =some v→cs[off+j]? =some v) (de:TypeDesc)
  (hu:P.underlying ty=some de) (hd:de.isRow=true) (hi:(P.info? ty).map (·.size)=some ds.length)
  (h:wpList P ops Q rest (a.put d (.agg ds.toArray)) w):wpList P ops Q (o::rest) a w:=by
 subst hdst
 exact wpList_load_mid hgd ty x ho g off hx ds de (hb.range off ds hds) hu hd hi h
theorem zjv {fn:Func} {p:Tmp} {ty:TypeId} (h:fn.results= #[.cell p ty]) (tmps:Array Value) (w:World) (g:Nat) (t:TypeId) (cs:List Value) (de:TypeDesc)
  (hp:tmps.getD p undef= .pointer (some ⟨g,0,none⟩)) (hb:Blk w g t cs)
  (hu:P.underlying ty=some de) (hd:de.isRow=true) (hi:(P.info? ty).map (·.size)=some cs.length):
  (results fn tmps).run P w= .ok (.agg cs.toArray) w:=
 results_cell_row h tmps w g t cs.toArray (0,0) de hp hb hu (by cases de<;>first|rfl|cases hd) (by simpa using hi)
end
theorem below2 {w w':World} {a b:Obj} (h:Below ((w.alloc a).alloc b).heap.size ((w.alloc a).alloc b) w'):Below w.heap.size w w':=by
 have h1:=(zaf w a).trans ((zaf (w.alloc a) b).mono (zaf w a).size)
 exact h1.trans (h.mono h1.size)
section
variable {P:Program} {w:World} {ops:Array Oper} {rest:List Oper} {o:Oper} {a:Act} {Q:Exit→Act→World→Prop}
end
def refC (l:List Int) (k:Nat):Int:=accL (l.getD 0 0%(if k=1 then 256 else if k=2 then 32 else if k=3 then 16 else 8)) l (k-1)
theorem ref_hit {l:List Int} {k:Nat} (hk:1≤k) (hl:k≤l.length) (h:putL (refC l k)=l.take k):nxL l=(refC l k,k):=by
 have hlen:(putL (refC l k)).length=k:=by rw[h,List.length_take];omega
 have:=zic (l:=l) (n:=refC l k) (fun e=>by rw[e]at hlen;simp at hlen;omega) (by rw[hlen];exact h)
 rwa [hlen]at this
theorem ref_miss {l:List Int} (hne:l≠[]) (h: ∀k,1≤k→k≤4→k≤l.length→ ¬putL (refC l k)=l.take k):nxL l=(-1,1):=by
 rcases zno l with⟨_,e⟩|⟨e,_⟩|⟨e,h1,h2,h3,h4⟩
 ·exact absurd e hne
 ·exact e
 ·exfalso
  have hw:=zhV (l.getD 0 0)
  refine h _ hw.1 hw.2 h1 ?_
  obtain⟨c,r,hc⟩:=List.exists_cons_of_ne_nil (l:=putL (zdn l)) (fun e=>by rw[e,List.length_nil]at h3;omega)
  have hcc:c=l.getD 0 0:=by
   rw[h2]at hc
   cases l with
   |nil=>exact absurd rfl hne
   |cons a t=>
    obtain⟨k,hk⟩: ∃k,zbr ((a::t).getD 0 0)=k+1:=⟨zbr ((a::t).getD 0 0)-1,by omega⟩
    rw[hk,List.take_succ_cons]at hc
    injection hc with hc1 _
    rw[←hc1];rfl
  have hm:=(zkJ hc).2
  rw[hcc]at hm
  have:refC l (zbr (l.getD 0 0))=zdn l:=by
   unfold refC zdn
   rw[hm]
  rw[this];exact h2
theorem hasN_not {l:List ByteArray} {x:ByteArray}:hasN l x=false↔x ∉ l:=by
 rw[←hasN_iff,Bool.not_eq_true]
theorem zkl (y:ByteArray) (l:List ByteArray) (x:ByteArray):hasN (y::l) x=(y.toList==x.toList||hasN l x):=rfl
theorem zkf (a:List ByteArray):(strV a).length=a.length:=by simp[strV]
theorem SliceN.own {w:World} {B e n:Nat} {v:Value} {ns:List ByteArray} (h:w.ownsRow B e 1 v n (strV ns)) (ho:NmOk ns):SliceN w v ns:=by
 have hn:ns.length=n:=by have:=h.1;rw[zkf]at this;omega
 subst hn
 have h0:=h
 rcases h.2 with⟨rfl,h1⟩|⟨g,cap,cur,rfl,hb,hcell,hle,hm,_⟩
 ·have:ns=[]:=List.eq_nil_of_length_eq_zero h1
  subst this
  exact .nil w
 ·refine⟨_,cap,rfl,hle,fun hp=>⟨g,0,rfl,(h0.lt g rfl).2,fun i x hi=> ?_⟩,ho⟩
  have hj:=(List.getElem?_eq_some_iff.1 hi).1
  rw[Nat.zero_add,h0.cellAt i (by simpa using hj)]
  simp[strV,hi]
theorem isD_false {c:Int}:isD c=false↔ ¬(48≤c∧c≤57):=by unfold isD;rw[decide_eq_false_iff_not]
theorem zmp: ∀(l:List Int),(∀x∈l,48≤x∧x≤57)→valL l<10^l.length:=fun l=>by
 induction l using snocInd with
 |h0=>intro _;decide
 |h1 l c ih=>
  intro h
  have h1:=ih (fun x hx=>h x (List.mem_append_left _ hx))
  have h2:=h c (by simp)
  rw[zeo,List.length_append,List.length_cons,List.length_nil,Nat.pow_succ]
  omega
theorem AllD.of_at {l:List Int} (h: ∀k,k<l.length→48≤l.getD k 0∧l.getD k 0≤57):AllD l:=fun x hx=>by
 obtain⟨k,hk,rfl⟩:=List.mem_iff_getElem.1 hx
 have:=h k hk
 rwa [List.getD_eq_getElem?_getD,List.getElem?_eq_getElem hk]at this
theorem znQ: ∀{l:List Int} (e:Int) (r:List Int),AllD l→isD e=false→runL (l++e::r)=l.length
 |[],e,r,_,he=>by rw[List.nil_append,runL,if_neg (by rw[he];decide)];rfl
 |c::l,e,r,h,he=>by
  rw[List.cons_append,runL,if_pos (isD_iff.2 (h c (by simp))),znQ e r (fun x hx=>h x (List.mem_cons_of_mem _ hx)) he];rfl
theorem zmW {c:Int} {ds:List Int} (h:AllD ds):zat (c::ds)=if zbe (c::ds)=true then ds.length+1 else if c=48 then 1 else 0:=by
 by_cases hf:zbe (c::ds)=true
 ·rw[if_pos hf]
  unfold zbe at hf
  rw[decide_eq_true_eq]at hf
  rw[hf.2];rfl
 ·rw[if_neg hf]
  have hne:zat (c::ds)≠ds.length+1:=fun e=>hf (by unfold zbe;rw[decide_eq_true_eq];exact⟨by simp,by rw[e];rfl⟩)
  rw[zat]at hne⊢
  by_cases h45:c=45
  ·subst h45
   rw[if_pos rfl]at hne⊢
   have h458: ¬((45:Int)=48):=by decide
   rw[if_neg h458]
   by_cases hc:49≤ds.getD 0 0∧ds.getD 0 0≤57
   ·rw[if_pos hc,zdx h]at hne
    exact absurd rfl hne
   ·rw[if_neg hc]
  ·rw[if_neg h45]at hne⊢
   by_cases h48:c=48
   ·rw[if_pos h48,if_pos h48]
   ·rw[if_neg h48]at hne⊢
    rw[if_neg h48]
    rw[runL]at hne⊢
    split
    ·rename_i hc
     rw[if_pos hc,zdx h]at hne
     exact absurd rfl hne
    ·rfl
theorem leadL_stop {c:Int} {ds:List Int} (e:Int) (r:List Int) (h:AllD ds) (he:isD e=false):zat (c::(ds++e::r))=zat (c::ds):=by
 have hne: ¬(48≤e∧e≤57):=isD_false.1 he
 rw[zat,zat,znQ e r h he]
 by_cases h45:c=45
 ·rw[if_pos h45,if_pos h45]
  cases ds with
  |nil=>rw[List.nil_append,List.getD_cons_zero,if_neg (by omega)];rfl
  |cons a t=>
   rw[List.cons_append,List.getD_cons_zero,List.getD_cons_zero,zdx h]
 ·rw[if_neg h45,if_neg h45]
  by_cases h48:c=48
  ·rw[if_pos h48,if_pos h48]
  ·rw[if_neg h48,if_neg h48,runL,runL,znQ e r h he,zdx h]
theorem form_more {c:Int} {ds:List Int} (e:Int) (h48:c≠48) (h:AllD (ds++[e])) (hf:zbe (c::ds)=true):zbe (c::(ds++[e]))=true:=by
 have hds:AllD ds:=fun x hx=>h x (List.mem_append_left _ hx)
 unfold zbe at hf⊢
 rw[decide_eq_true_eq]at hf⊢
 refine⟨by simp,?_⟩
 have h1:=hf.2
 rw[zat]at h1⊢
 by_cases h45:c=45
 ·rw[if_pos h45]at h1⊢
  cases ds with
  |nil=>simp at h1
  |cons a t=>
   rw[List.getD_cons_zero]at h1
   rw[List.cons_append,List.getD_cons_zero]
   by_cases hc:49≤a∧a≤57
   ·rw[if_pos hc,←List.cons_append,zdx h];simp
   ·rw[if_neg hc]at h1;simp at h1
 ·rw[if_neg h45,if_neg h48]at h1⊢
  rw[runL]at h1⊢
  by_cases hc:isD c=true
  ·rw[if_pos hc,zdx h];simp
  ·rw[if_neg hc]at h1;simp at h1
theorem leadL_step {l:List Int} {k:Nat} (hk:k<l.length) (h:AllD ((l.take (k+1)).drop 1)):zat (l.take (k+1))=if zbe (l.take (k+1))=true then k+1 else zat (l.take k):=by
 cases l with
 |nil=>simp at hk
 |cons c r=>
  rw[List.take_succ_cons]at h⊢
  rw[List.drop_succ_cons,List.drop_zero]at h
  have hl:(r.take k).length=k:=by rw[List.length_take];simp at hk;omega
  rw[zmW h,hl]
  by_cases hf:zbe (c::r.take k)=true
  ·rw[if_pos hf,if_pos hf]
  ·rw[if_neg hf,if_neg hf]
   cases k with
   |zero=>
    rw[List.take_zero,zat]
    by_cases h48:c=48
    ·subst h48
     exact absurd (show zbe (48::List.take 0 r)=true by rw[List.take_zero];decide) hf
    ·rw[if_neg h48]
   |succ k=>
    have hkr:k<r.length:=by simp at hk;omega
    have he:r.take (k+1)=r.take k++[r[k]]:=by rw[List.take_succ_eq_append_getElem hkr]
    rw[he]at h hf
    have hds:AllD (r.take k):=fun x hx=>h x (List.mem_append_left _ hx)
    rw[List.take_succ_cons,zmW hds]
    by_cases hf2:zbe (c::r.take k)=true
    ·by_cases h48:c=48
     ·have hk0:k=0:=by
       subst h48
       obtain⟨_,h2⟩:=(zdl (by simp)).1 hf2
       rcases h2 with h2|⟨_,h2⟩
       ·rw[List.length_cons,List.length_take]at h2;omega
       ·exact absurd rfl h2
      subst hk0
      rw[if_pos h48,if_pos hf2];rfl
     ·exact absurd (form_more _ h48 h hf2) hf
    ·rw[if_neg hf2]
theorem leadL_break {l:List Int} {k:Nat} (hk:k<l.length) (h1:1≤k) (h:AllD ((l.take k).drop 1)) (he: ¬(48≤l.getD k 0∧l.getD k 0≤57)):zat l=zat (l.take k):=by
 cases l with
 |nil=>simp at hk
 |cons c r=>
  obtain⟨j,rfl⟩: ∃j,k=j+1:=⟨k-1,by omega⟩
  rw[List.take_succ_cons]at h⊢
  rw[List.drop_succ_cons,List.drop_zero]at h
  have hj:j<r.length:=by simp at hk;omega
  have e1:r=r.take j++r[j]::r.drop (j+1):=by rw[List.getElem_cons_drop,List.take_append_drop]
  have e2:(c::r).getD (j+1) 0=r[j]:=by rw[List.getD_cons_succ,List.getD_eq_getElem?_getD,List.getElem?_eq_getElem hj];rfl
  rw[e2]at he
  have:=leadL_stop (c:=c) r[j] (r.drop (j+1)) h (isD_false.2 he)
  rw[←e1]at this
  exact this
def lexL:List Int→List Int→Bool
 |_,[]=>false
 |[],_::_=>true
 |a::x,b::y=>decide (a<b)||(decide (a=b)&&lexL x y)
theorem lexL_val: ∀{a b:List Int},AllD a→AllD b→a.length=b.length→lexL a b=decide (valL a<valL b)
 |[],[],_,_,_=>rfl
 |a::x,b::y,ha,hb,hl=>by
  have hl':x.length=y.length:=by simpa using hl
  have hax:AllD x:=fun z hz=>ha z (List.mem_cons_of_mem _ hz)
  have hby:AllD y:=fun z hz=>hb z (List.mem_cons_of_mem _ hz)
  have h1:=ha a (by simp)
  have h2:=hb b (by simp)
  have vx:=zmp x hax
  have vy:=zmp y hby
  rw[lexL,lexL_val hax hby hl',zjk,zjk,hl']
  rw[hl']at vx
  obtain⟨m,hm⟩: ∃m:Nat,a=48+(m:Int):=⟨(a-48).toNat,by omega⟩
  obtain⟨k,hk⟩: ∃k:Nat,b=48+(k:Int):=⟨(b-48).toNat,by omega⟩
  have e1:(a-48).toNat=m:=by omega
  have e2:(b-48).toNat=k:=by omega
  rw[e1,e2]
  rw[Bool.eq_iff_iff,Bool.or_eq_true,Bool.and_eq_true,decide_eq_true_eq,decide_eq_true_eq,decide_eq_true_eq,decide_eq_true_eq]
  rcases Nat.lt_trichotomy m k with h|h|h
  ·have h3:(m+1)*10^y.length≤k*10^y.length:=Nat.mul_le_mul_right _ h
   rw[Nat.add_mul,Nat.one_mul]at h3
   exact⟨fun _=>by omega,fun _=> .inl (by omega)⟩
  ·subst h
   exact⟨fun h4=>by rcases h4 with h4|⟨_,h4⟩<;>omega,fun h4=> .inr ⟨by omega,by omega⟩⟩
  ·have h3:(k+1)*10^y.length≤m*10^y.length:=Nat.mul_le_mul_right _ h
   rw[Nat.add_mul,Nat.one_mul]at h3
   exact⟨fun h4=>by rcases h4 with h4|⟨h4,_⟩<;>omega,fun h4=>by omega⟩
def lessL (a b:List Int):Bool:=if a.length≠b.length then decide (a.length<b.length)else lexL a b
theorem zhr {a b:List Int} (ha:AllD a) (hb:AllD b) (h0:49≤a.getD 0 0) (h1:49≤b.getD 0 0∨b.length=1) (hla:2≤a.length):lessL a b=decide (valL a<valL b):=by
 unfold lessL
 have va:=zmp a ha
 have vb:=zmp b hb
 have wa:=valL_ge h0
 split
 ·rename_i hne
  rcases Nat.lt_or_ge a.length b.length with h|h
  ·have wb:=valL_ge (h1.resolve_right (by omega))
   have hp:10^a.length≤10^(b.length-1):=Nat.pow_le_pow_right (by decide) (by omega)
   rw[decide_eq_true h,decide_eq_true (by omega)]
  ·have hp:10^b.length≤10^(a.length-1):=Nat.pow_le_pow_right (by decide) (by omega)
   rw[decide_eq_false (by omega),decide_eq_false (by omega)]
 ·rename_i he
  exact lexL_val ha hb (by simpa using he)
theorem zgh: ∀(a b:List UInt8),Op.bytesLess a b=lexL (a.map fun x=>(x.toNat:Int)) (b.map fun x=>(x.toNat:Int))
 |[],[]=>rfl
 |_::_,[]=>rfl
 |[],_::_=>rfl
 |a::x,b::y=>by
  rw[Op.bytesLess,zgh x y,List.map_cons,List.map_cons,lexL]
  congr 1
  ·rw[Bool.eq_iff_iff,decide_eq_true_eq,decide_eq_true_eq,UInt8.lt_iff_toNat_lt];omega
  ·congr 1
   rw[Bool.eq_iff_iff,beq_iff_eq,decide_eq_true_eq]
   constructor
   ·rintro rfl;rfl
   ·intro h;exact UInt8.toNat_inj.1 (by omega)
theorem zoV (s t:ByteArray):Op.bytesLess s.toList t.toList=lexL (strL s) (strL t):=by
 rw[ByteArray.toList_eq,ByteArray.toList_eq,zgh];rfl
def zgo:List ByteArray→List ByteArray→Bool
 |[],[]=>true
 |x::a,y::b=>(x.toList==y.toList)&&zgo a b
 |_,_=>false
theorem sameN_iff: ∀{a b:List ByteArray},zgo a b=true↔a=b
 |[],[]=>by simp[zgo]
 |[],y::b=>by simp[zgo]
 |x::a,[]=>by simp[zgo]
 |x::a,y::b=>by
  rw[zgo,Bool.and_eq_true,beq_iff_eq,sameN_iff,List.cons.injEq]
  exact⟨fun⟨h1,h2⟩=>⟨toList_inj h1,h2⟩,fun⟨h1,h2⟩=>⟨by rw[h1],h2⟩⟩
theorem sameN_len {a b:List ByteArray} (h:a.length≠b.length):zgo a b=false:=by
 cases hs:zgo a b with
 |false=>rfl
 |true=>exact absurd (by rw[sameN_iff.1 hs]) h
theorem sameN_self (a:List ByteArray):zgo a a=true:=sameN_iff.2 rfl
theorem zmy (va vb:Value) (a b:List ByteArray) (w:World) (ha:SliceN w va a) (hb:SliceN w vb b) (hn:a.length≤1000000000) (hn2:b.length≤1000000000):
  Calls Tryz.prog 40 #[va,vb] w fun e w'=>e= .returned (.bool (zgo a b))∧Below w.heap.size w w':=by
 obtain⟨A,c,rfl,hc,hl, -⟩:=ha
 obtain⟨A2,c2,rfl,hc2,hl2, -⟩:=hb
 obtain⟨n,hnn⟩: ∃n,n=a.length:=⟨_,rfl⟩
 obtain⟨m,hmm⟩: ∃m,m=b.length:=⟨_,rfl⟩
 obtain⟨R,hR⟩: ∃R,R=zgo a b:=⟨_,rfl⟩
 rw[←hR]
 rw[←hnn]at hc hn⊢
 rw[←hmm]at hc2 hn2⊢
 have HN:=Lib.hid hnn
 have HM:=Lib.hid hmm
 have HL:=Lib.hid hl
 have HL2:=Lib.hid hl2
 have HR:=Lib.hid hR
 clear hnn hmm hl hl2 hR
 by_cases hnm:n=m
 ·subst hnm
  go_enter Tryz.func40,Tryz.ntmps40
  go_wp2
  go_loopw[5] (fun i wr=> ∃k:Nat,k≤n∧i= .int .i64 (k:Int)∧R=zgo (a.drop k) (b.drop k)∧Below w.heap.size w wr) (fun i _=>n-(intOf i).toNat)
  case atStart=>exact⟨0,Nat.zero_le _,rfl,HR.out,Below.refl _ _⟩
  case round=>
   obtain⟨k,hk,rfl,hrun,hbel⟩:=hrel
   have HRUN:=Lib.hid hrun
   have HBE:=Lib.hid hbel
   clear hrun hbel
   by_cases hlt:k<n
   ·have hkl:k<a.length:=by rw[←HN.out];exact hlt
    have hkl2:k<b.length:=by rw[←HM.out];exact hlt
    obtain⟨b1,o1,rfl,_,hcell⟩:=(HL.out.below HBE.out).at hkl
    obtain⟨b2,o2,rfl,_,hcell2⟩:=(HL2.out.below HBE.out).at hkl2
    have hi0:(0:Int)≤(k:Int):=by omega
    have HD:Hid (a.drop k=a[k]::a.drop (k+1)):=Lib.hid (List.drop_eq_getElem_cons hkl)
    have HD2:Hid (b.drop k=b[k]::b.drop (k+1)):=Lib.hid (List.drop_eq_getElem_cons hkl2)
    obtain⟨x,hx⟩: ∃x,x=a[k]:=⟨_,rfl⟩
    obtain⟨y,hy⟩: ∃x,x=b[k]:=⟨_,rfl⟩
    rw[←hx]at hcell HD
    rw[←hy]at hcell2 HD2
    clear hx hkl hy hkl2
    cases he:(x.toList==y.toList)with
    |true=>
     have HT:Hid (R=zgo (a.drop (k+1)) (b.drop (k+1))):=Lib.hid (by rw[HRUN.out,HD.out,HD2.out,zgo,he,Bool.true_and])
     go_wp2
     go_region_held3(fun W=>Below wr.heap.size wr W∧W.cell? ⟨b1,o1+k,none⟩=some (.string x)∧W.cell? ⟨b2,o2+k,none⟩=some (.string y))
      (first
       |exact⟨(Below.refl _ _).drew,hcell,hcell2⟩
       |go_keep)
      (fail)
     all_goals
      go_wp2
      go_roundw
      case rel=>exact⟨k+1,by omega,by go_num,HT.out,HBE.out.drew⟩
      case measure=>simp[intOf];omega
    |false=>
     have HT:Hid (R=false):=Lib.hid (by rw[HRUN.out,HD.out,HD2.out,zgo,he,Bool.false_and])
     go_wp2
     go_region_held3(fun W=>Below wr.heap.size wr W∧W.cell? ⟨b1,o1+k,none⟩=some (.string x)∧W.cell? ⟨b2,o2+k,none⟩=some (.string y))
      (first
       |exact⟨(Below.refl _ _).drew,hcell,hcell2⟩
       |go_keep)
      (fail)
     all_goals
      go_wp2
      go_ret
      exact⟨zdr HT.out.symm,HBE.out.drew⟩
   ·obtain rfl:k=n:=by omega
    have HT:Hid (R=true):=Lib.hid (by rw[HRUN.out,HN.out,List.drop_length,←HN.out,HM.out,List.drop_length];rfl)
    clear hlt
    go_wp2
    go_ret
    exact⟨zdr HT.out.symm,HBE.out⟩
 ·have HT:Hid (R=false):=Lib.hid (by rw[HR.out];exact sameN_len (by rw[←HN.out,←HM.out];exact hnm))
  have hq:((n:Int)==(m:Int))=false:=by rw[beq_eq_false_iff_ne];omega
  clear hnm
  go_enter Tryz.func40,Tryz.ntmps40
  go_wp2
  go_ret
  exact⟨zdr HT.out.symm,Below.refl _ _⟩
theorem infoStrR:(Tryz.prog.info? 9).map (fun i=>(i.zero,i.size,i.bytes))=some (some (.string ByteArray.empty),1,16):=by kernel_rfl
theorem zeW (w:World) (x:ByteArray) (t:TypeId): ∀j u,[Value.string x][j]? =some u→(w.alloc (.cells #[.string x] t)).cell? ((⟨w.heap.size,0,none⟩:Addr).add j)=some u:=fun j u hj=>by
 match j,hj with
 |0,hj=>simp at hj;subst hj;simp[Addr.add]
theorem refHas_any (v:Value) (ns:List ByteArray) (x:ByteArray) (w:World) (h:SliceN w v ns) (hn:ns.length≤1000000000):
  Calls Tryz.prog 78 #[v,.string x] w fun e w'=>e= .returned (.bool (hasN ns x))∧w=w':=by
 obtain⟨A,c,rfl,hc,hl, -⟩:=h
 obtain⟨n,hnn⟩: ∃n,n=ns.length:=⟨_,rfl⟩
 obtain⟨R,hR⟩: ∃R,R=hasN ns x:=⟨_,rfl⟩
 rw[←hR]
 rw[←hnn]at hc hn⊢
 have HN:=Lib.hid hnn
 have HL:=Lib.hid hl
 have HR:=Lib.hid hR
 clear hnn hl hR
 go_enter Tryz.func78,Tryz.ntmps78
 go_wp2
 go_loop [5] (fun i=> ∃k:Nat,k≤n∧i= .int .i64 (k:Int)∧R=hasN (ns.drop k) x) (fun i=>n-(intOf i).toNat)
 case atStart=>exact⟨0,Nat.zero_le _,rfl,HR.out⟩
 case round=>
  obtain⟨k,hk,rfl,hrun⟩:=hrel
  have HRUN:=Lib.hid hrun
  clear hrun
  by_cases hlt:k<n
  ·have hkl:k<ns.length:=by rw[←HN.out];exact hlt
   obtain⟨b,o,rfl,_,hcell⟩:=HL.out.at hkl
   have hi0:(0:Int)≤(k:Int):=by omega
   have HD:Hid (ns.drop k=ns[k]::ns.drop (k+1)):=Lib.hid (List.drop_eq_getElem_cons hkl)
   obtain⟨y,hy⟩: ∃x,x=ns[k]:=⟨_,rfl⟩
   rw[←hy]at hcell HD
   clear hy hkl
   cases he:(y.toList==x.toList)with
   |true=>
    have HT:Hid (R=true):=Lib.hid (by rw[HRUN.out,HD.out,zkl,he,Bool.true_or])
    go_wp2
    go_ret
    exact⟨zdr HT.out.symm,rfl⟩
   |false=>
    have HT:Hid (R=hasN (ns.drop (k+1)) x):=Lib.hid (by rw[HRUN.out,HD.out,zkl,he,Bool.false_or])
    go_wp2
    go_round
    case rel=>exact⟨k+1,by omega,by go_num,HT.out⟩
    case measure=>simp[intOf];omega
  ·obtain rfl:k=n:=by omega
   have HT:Hid (R=false):=Lib.hid (by rw[HRUN.out,HN.out,List.drop_length];rfl)
   clear hlt
   go_wp2
   go_ret
   exact⟨zdr HT.out.symm,rfl⟩
theorem insG_drop {l:List ByteArray} {k:Nat} (x:ByteArray) (d:Bool) (h:k<l.length):insG x d (l.drop k)=(if d=false∧ltS x l[k]=true then[x]else[])++l[k]::insG x (d||ltS x l[k]) (l.drop (k+1)):=by
 rw[List.drop_eq_getElem_cons h,insG]
theorem ins_end (x:ByteArray) (d:Bool):insG x d []=if d then[]else[x]:=by rw[insG]
theorem sub_insG {x:ByteArray} {xs l r:List ByteArray} (h:xs++r=insG x false l) (ho:NmOk l) (hx:x.size≤1000000000):NmOk xs:=fun z hz=>by
 have:z∈insG x false l:=by rw[←h];exact List.mem_append_left _ hz
 rcases(zjY x l z).1 this with rfl|h2
 ·exact hx
 ·exact ho z h2
theorem zik (v:Value) (ns:List ByteArray) (x:ByteArray) (w:World) (h:SliceN w v ns) (hn:ns.length≤1000000) (hx:x.size≤1000000000):
  Calls Tryz.prog 79 #[v,.string x] w fun e w'=> ∃u,e= .returned u∧SliceN w' u (putS ns x)∧Below w.heap.size w w':=by
 have H0:=Lib.hid h
 have HHAS:=Lib.hid (refHas_any v ns x w h (by omega))
 cases hh:hasN ns x with
 |true=>
  have HP:Hid (putS ns x=ns):=Lib.hid (by unfold putS;rw[if_pos hh])
  rw[hh]at HHAS
  rw[HP.out]
  clear h hh
  go_enter Tryz.func79,Tryz.ntmps79
  go_wp2_with(go_at_call 78;(with_reducible refine HHAS.out.mono ?_);rintro e w' ⟨rfl,rfl⟩)
  go_ret
  exact⟨_,rfl,H0.out,Below.refl _ _⟩
 |false=>
  obtain⟨T,hT⟩: ∃T,T=insG x false ns:=⟨_,rfl⟩
  have HP:Hid (putS ns x=T):=Lib.hid (by unfold putS;rw[if_neg (by rw[hh];simp),hT])
  have HT:=Lib.hid hT
  have HNOT:Hid (∀y∈ns,y≠x):=Lib.hid (fun y hy e=>hasN_not.1 hh (e▸hy))
  rw[hh]at HHAS
  rw[HP.out]
  obtain⟨A,c,rfl,hc,hl,hok⟩:=h
  obtain⟨n,hnn⟩: ∃n,n=ns.length:=⟨_,rfl⟩
  rw[←hnn]at hc hn HHAS⊢
  have HN:=Lib.hid hnn
  have HL:=Lib.hid hl
  have HOK:=Lib.hid hok
  have HTL:Hid (T.length=n+1):=Lib.hid (by rw[hT,zgw,hnn])
  obtain⟨iS,hS0,hS1,hS2,hS3⟩:=info_parts infoStrR
  clear hh hT hl hok hnn H0 HP
  go_enter Tryz.func79,Tryz.ntmps79
  go_wp2_with(go_at_call 78;(with_reducible refine HHAS.out.mono ?_);rintro e w' ⟨rfl,rfl⟩)
  go_loopw[5,6,7] (fun ov dv i wr=> ∃(k q:Nat) (d:Bool) (xs:List ByteArray),k≤n∧i= .int .i64 (k:Int)∧dv= .bool d∧xs++insG x d (ns.drop k)=T∧(d=false→q≤k)∧q≤k+1∧wr.ownsRow w.heap.size 9 1 ov q (strV xs)∧Below w.heap.size w wr) (fun _ _ i _=>n-(intOf i).toNat)
  case atStart=>exact⟨0,0,false,[],Nat.zero_le _,rfl,rfl,HT.out.symm,fun _=>Nat.le_refl _,by omega,World.ownsRow_nil _ _ _ _,Below.refl _ _⟩
  case round=>
   clear HHAS
   obtain⟨k,q,d,xs,hk,rfl,rfl,hrun,hqd,hq,hown,hbel⟩:=hrel
   have HQD:=Lib.hid hqd
   clear hqd
   have HRUN:=Lib.hid hrun
   have HOW:=Lib.hid hown
   have HBE:=Lib.hid hbel
   have hs0:=hbel.size
   clear hrun hown hbel
   by_cases hlt:k<n
   ·have hkl:k<ns.length:=by rw[←HN.out];exact hlt
    obtain⟨b,o,rfl,hbl,hcell0⟩:=HL.out.at hkl
    have hcell:=(HBE.out.cell (p:=⟨b,o+k,none⟩) hbl).trans hcell0
    have hi0:(0:Int)≤(k:Int):=by omega
    have hne:=HNOT.out _ (List.getElem_mem hkl)
    have HST:=Lib.hid (insG_drop x d hkl)
    obtain⟨y,hy⟩: ∃z,z=ns[k]:=⟨_,rfl⟩
    rw[←hy]at hcell HST hne hcell0
    have HC0:=Lib.hid hcell0
    have HBL:=Lib.hid hbl
    clear hcell0 hbl
    clear hy hkl
    cases hd:d with
    |true=>
     have HR2:Hid ((xs++[y])++insG x true (ns.drop (k+1))=T):=Lib.hid (by rw[←HRUN.out,HST.out,hd];simp)
     subst hd
     clear hne HRUN HST
     go_wp2_with(at_builtin;refine wpList_append_own _ rfl _ _ 22 rfl w.heap.size 9 iS (.string ByteArray.empty) 1 16 Tryz.underlying22 hS0 hS1 hS2 hS3 rfl (by decide) _ q _ rfl (HOW.out.alloc _) ⟨wr.heap.size,0,none⟩ 1 1 [.string y] rfl rfl (zeW _ _ _) (by simp[Value.oneCell']) (by unfold maxLen;omega) (by omega) (by simp;omega) ?_;intro v4 w4 hown4 hgrow4 hnil4)
     have HO5:Hid (w4.ownsRow w.heap.size 9 1 v4 (q+1) (strV (xs++[y]))):=Lib.hid (by rw[zcW];exact hown4)
     have HB5:=Lib.hid ((HBE.out.alloc hs0 (.cells #[.string y] 9)).grown hgrow4 (by simp;omega) (fun i hi=>(HOW.out.lt i hi).1))
     clear hown4 hgrow4 hnil4
     go_roundw
     case rel=>exact⟨k+1,q+1,true,xs++[y],by omega,by go_num,rfl,HR2.out,(by intro h;cases h),by omega,HO5.out,HB5.out⟩
     case measure=>simp[intOf];omega
    |false=>
     subst hd
     cases hlx:ltS x y with
     |false=>
      have hb1:Op.bytesLess y.toList x.toList=true:=ltS_total (fun e=>hne e.symm) hlx
      have HR2:Hid ((xs++[y])++insG x false (ns.drop (k+1))=T):=Lib.hid (by rw[←HRUN.out,HST.out,hlx];simp)
      clear hne HRUN HST hlx
      go_wp2_with(at_builtin;refine wpList_append_own _ rfl _ _ 22 rfl w.heap.size 9 iS (.string ByteArray.empty) 1 16 Tryz.underlying22 hS0 hS1 hS2 hS3 rfl (by decide) _ q _ rfl (HOW.out.alloc _) ⟨wr.heap.size,0,none⟩ 1 1 [.string y] rfl rfl (zeW _ _ _) (by simp[Value.oneCell']) (by unfold maxLen;omega) (by omega) (by simp;omega) ?_;intro v4 w4 hown4 hgrow4 hnil4)
      have HO5:Hid (w4.ownsRow w.heap.size 9 1 v4 (q+1) (strV (xs++[y]))):=Lib.hid (by rw[zcW];exact hown4)
      have HB5:=Lib.hid ((HBE.out.alloc hs0 (.cells #[.string y] 9)).grown hgrow4 (by simp;omega) (fun i hi=>(HOW.out.lt i hi).1))
      clear hown4 hgrow4 hnil4
      go_roundw
      case rel=>exact⟨k+1,q+1,false,xs++[y],by omega,by go_num,rfl,HR2.out,(by intro _;have:=HQD.out rfl;omega),by omega,HO5.out,HB5.out⟩
      case measure=>simp[intOf];omega
     |true=>
      have hb1:Op.bytesLess y.toList x.toList=false:=ltS_asymm hlx
      have hb2:(y.toList==x.toList)=false:=by rw[beq_eq_false_iff_ne];exact fun e=>hne (toList_inj e)
      have HR2:Hid (((xs++[x])++[y])++insG x true (ns.drop (k+1))=T):=Lib.hid (by rw[←HRUN.out,HST.out,hlx];simp)
      have HQ:Hid (q≤k):=Lib.hid (HQD.out rfl)
      clear hne HRUN HST hlx
      have tok1:True:=trivial
      go_wp2_with(first
       |(at_builtin;have _t:=tok1;refine wpList_append_own _ rfl _ _ 22 rfl w.heap.size 9 iS (.string ByteArray.empty) 1 16 Tryz.underlying22 hS0 hS1 hS2 hS3 rfl (by decide) _ q _ rfl (HOW.out.alloc _) ⟨wr.heap.size,0,none⟩ 1 1 [.string x] rfl rfl (zeW _ _ _) (by simp[Value.oneCell']) (by unfold maxLen;omega) (by omega) (by simp;omega) ?_;intro v4 w4 hown4 hgrow4 hnil4;clear tok1;have HO4:Hid (w4.ownsRow w.heap.size 9 1 v4 (q+1) (strV (xs++[x]))):=Lib.hid (by rw[zcW];exact hown4);have HB4:=Lib.hid ((HBE.out.alloc hs0 (.cells #[.string x] 9)).grown hgrow4 (by simp;omega) (fun i hi=>(HOW.out.lt i hi).1));have hs4:=HB4.out.size;have hcell4:=(HB4.out.cell (p:=⟨b,o+k,none⟩) HBL.out).trans HC0.out;clear hown4 hgrow4 hnil4)
       |(at_builtin;refine wpList_append_own _ rfl _ _ 22 rfl w.heap.size 9 iS (.string ByteArray.empty) 1 16 Tryz.underlying22 hS0 hS1 hS2 hS3 rfl (by decide) _ (q+1) _ rfl (HO4.out.alloc _) ⟨w4.heap.size,0,none⟩ 1 1 [.string y] rfl rfl (zeW _ _ _) (by simp[Value.oneCell']) (by unfold maxLen;omega) (by omega) (by simp;omega) ?_;intro v6 w6 hown6 hgrow6 hnil6))
      have HO5:Hid (w6.ownsRow w.heap.size 9 1 v6 (q+2) (strV ((xs++[x])++[y]))):=Lib.hid (by rw[zcW];exact hown6)
      have HB5:=Lib.hid ((HB4.out.alloc hs4 (.cells #[.string y] 9)).grown hgrow6 (by simp;omega) (fun i hi=>(HO4.out.lt i hi).1))
      clear hown6 hgrow6 hnil6
      have hq2:=HQ.out
      go_roundw
      case rel=>exact⟨k+1,q+2,true,(xs++[x])++[y],by omega,by go_num,rfl,HR2.out,(by intro h;cases h),by omega,HO5.out,HB5.out⟩
      case measure=>simp[intOf];omega
   ·obtain rfl:k=n:=by omega
    have HDR:Hid (ns.drop k=[]):=Lib.hid (by rw[HN.out];exact List.drop_length)
    rw[HDR.out,ins_end]at HRUN
    clear hlt
    cases hd:d with
    |true=>
     subst hd
     have HR2:Hid (xs=T):=Lib.hid (by rw[←HRUN.out];simp)
     rw[HR2.out]at HOW
     have HOKT:Hid (NmOk T):=Lib.hid (sub_insG (r:=[]) (by rw[List.append_nil];exact HT.out) HOK.out hx)
     go_wp2
     go_ret
     exact⟨_,rfl,SliceN.own HOW.out HOKT.out,HBE.out⟩
    |false=>
     subst hd
     have HR2:Hid (xs++[x]=T):=Lib.hid (by rw[←HRUN.out];simp)
     have HOKT:Hid (NmOk T):=Lib.hid (sub_insG (r:=[]) (by rw[List.append_nil];exact HT.out) HOK.out hx)
     go_wp2_with(at_builtin;refine wpList_append_own _ rfl _ _ 22 rfl w.heap.size 9 iS (.string ByteArray.empty) 1 16 Tryz.underlying22 hS0 hS1 hS2 hS3 rfl (by decide) _ q _ rfl (HOW.out.alloc _) ⟨wr.heap.size,0,none⟩ 1 1 [.string x] rfl rfl (zeW _ _ _) (by simp[Value.oneCell']) (by unfold maxLen;omega) (by omega) (by simp;omega) ?_;intro v4 w4 hown4 hgrow4 hnil4)
     have HO5:Hid (w4.ownsRow w.heap.size 9 1 v4 (q+1) (strV T)):=Lib.hid (by rw[←HR2.out,zcW];exact hown4)
     have HB5:=Lib.hid ((HBE.out.alloc hs0 (.cells #[.string x] 9)).grown hgrow4 (by simp;omega) (fun i hi=>(HOW.out.lt i hi).1))
     clear hown4 hgrow4 hnil4
     go_ret
     exact⟨_,rfl,SliceN.own HO5.out HOKT.out,HB5.out⟩
theorem refAll_any (va vb:Value) (a b:List ByteArray) (w:World) (ha:SliceN w va a) (hb:SliceN w vb b) (hn:a.length≤100000) (hn2:b.length≤10000):
  Calls Tryz.prog 97 #[va,vb] w fun e w'=> ∃u,e= .returned u∧SliceN w' u (setS (a++b))∧Below w.heap.size w w':=by
 obtain⟨A,c,rfl,hc,hl,hok⟩:=ha
 obtain⟨A2,c2,rfl,hc2,hl2,hok2⟩:=hb
 obtain⟨n,hnn⟩: ∃n,n=a.length:=⟨_,rfl⟩
 obtain⟨m,hmm⟩: ∃m,m=b.length:=⟨_,rfl⟩
 rw[←hnn]at hc hn⊢
 rw[←hmm]at hc2 hn2⊢
 obtain⟨T,hT⟩: ∃T,T=setS (a++b):=⟨_,rfl⟩
 rw[←hT]
 have HN:=Lib.hid hnn
 have HM:=Lib.hid hmm
 have HL:=Lib.hid hl
 have HL2:=Lib.hid hl2
 have HOK:=Lib.hid hok
 have HOK2:=Lib.hid hok2
 have HT:=Lib.hid hT
 clear hnn hmm hl hl2 hok hok2 hT
 go_enter Tryz.func97,Tryz.ntmps97
 go_wp2
 go_loopw[5,6] (fun ov i wr=> ∃k:Nat,k≤n∧i= .int .i64 (k:Int)∧SliceN wr ov (setS (a.take k))∧Below w.heap.size w wr) (fun _ i _=>n-(intOf i).toNat)
 case atStart=>exact⟨0,Nat.zero_le _,rfl,SliceN.nil _,Below.refl _ _⟩
 case round=>
  obtain⟨k,hk,rfl,hsl,hbel⟩:=hrel
  have HSL:=Lib.hid hsl
  have HBE:=Lib.hid hbel
  clear hsl hbel
  by_cases hlt:k<n
  ·have hkl:k<a.length:=by rw[←HN.out];exact hlt
   obtain⟨b1,o1,rfl,_,hcell⟩:=(HL.out.below HBE.out).at hkl
   have hi0:(0:Int)≤(k:Int):=by omega
   have HTK:Hid (setS (a.take (k+1))=putS (setS (a.take k)) a[k]):=Lib.hid (by rw[List.take_succ_eq_append_getElem hkl,zhc])
   have hle:(setS (a.take k)).length≤1000000:=by
    have:=zdp (a.take k) []
    simp at this
    unfold setS;omega
   have HPUT:=Lib.hid (zik _ (setS (a.take k)) a[k] wr HSL.out hle (HOK.out _ (List.getElem_mem hkl)))
   obtain⟨x,hx⟩: ∃x,x=a[k]:=⟨_,rfl⟩
   rw[←hx]at hcell HTK HPUT
   clear hx hkl hle
   go_wp2_with(go_at_call 79;(with_reducible refine HPUT.out.mono ?_);rintro e w2 ⟨u,rfl,hs2,hb2⟩;have HS2:=Lib.hid hs2;have HB2:=Lib.hid (HBE.out.trans (hb2.mono HBE.out.size));clear hs2 hb2)
   go_roundw
   case rel=>exact⟨k+1,by omega,by go_num,by rw[HTK.out];exact HS2.out,HB2.out⟩
   case measure=>simp[intOf];omega
  ·obtain rfl:k=n:=by omega
   have HTA:Hid (setS (a.take k)=setS (a++b.take 0)):=Lib.hid (by rw[HN.out,List.take_length,List.take_zero,List.append_nil])
   rw[HTA.out]at HSL
   clear hlt HTA
   go_wp2
   go_loopw[5,7] (fun ov i wr=> ∃j:Nat,j≤m∧i= .int .i64 (j:Int)∧SliceN wr ov (setS (a++b.take j))∧Below w.heap.size w wr) (fun _ i _=>m-(intOf i).toNat)
   case atStart=>exact⟨0,Nat.zero_le _,rfl,HSL.out,HBE.out⟩
   case round=>
    clear HSL HBE
    obtain⟨j,hj,rfl,hsl,hbel⟩:=hrel
    have HSL:=Lib.hid hsl
    have HBE:=Lib.hid hbel
    clear hsl hbel
    by_cases hlt:j<m
    ·have hkl:j<b.length:=by rw[←HM.out];exact hlt
     obtain⟨b1,o1,rfl,_,hcell⟩:=(HL2.out.below HBE.out).at hkl
     have hi0:(0:Int)≤(j:Int):=by omega
     have HTK:Hid (setS (a++b.take (j+1))=putS (setS (a++b.take j)) b[j]):=Lib.hid (by rw[List.take_succ_eq_append_getElem hkl,←List.append_assoc,zhc])
     have hle:(setS (a++b.take j)).length≤1000000:=by
      have hn3:=HN.out
      refine Nat.le_trans (zdp (a++b.take j) []) ?_
      rw[List.length_append,List.length_take,List.length_nil]
      omega
     have HPUT:=Lib.hid (zik _ (setS (a++b.take j)) b[j] wr HSL.out hle (HOK2.out _ (List.getElem_mem hkl)))
     obtain⟨x,hx⟩: ∃x,x=b[j]:=⟨_,rfl⟩
     rw[←hx]at hcell HTK HPUT
     clear hx hkl hle
     go_wp2_with(go_at_call 79;(with_reducible refine HPUT.out.mono ?_);rintro e w2 ⟨u,rfl,hs2,hb2⟩;have HS2:=Lib.hid hs2;have HB2:=Lib.hid (HBE.out.trans (hb2.mono HBE.out.size));clear hs2 hb2)
     go_roundw
     case rel=>exact⟨j+1,by omega,by go_num,by rw[HTK.out];exact HS2.out,HB2.out⟩
     case measure=>simp[intOf];omega
    ·obtain rfl:j=m:=by omega
     have HTB:Hid (setS (a++b.take j)=T):=Lib.hid (by rw[HM.out,List.take_length,HT.out])
     rw[HTB.out]at HSL
     clear hlt
     go_wp2
     go_ret
     exact⟨_,rfl,HSL.out,HBE.out⟩
end Go.Proofs.YtjfgmgkhinehaaaGreatDoor
