
import Derived.Test.YtjfgmgkhinehaaaGreatDoorCq15
set_option maxRecDepth 100000
set_option maxHeartbeats 16000000
set_option linter.all false
namespace Go.Proofs.YtjfgmgkhinehaaaGreatDoor
open Go Go.RowKit
section
variable {w w':World} {g:Nat} {t:TypeId} {cs:List Value}
end
theorem zmx (k:IntKind) (l:List Int) (i:Nat) (x:Int):(ints k l).set i (.int k x)=ints k (l.set i x):=by simp[ints,List.map_set]
section
variable {P:Program} {w:World} {ops:Array Oper} {rest:List Oper} {o:Oper} {a:Act} {Q:Exit→Act→World→Prop}
end
theorem zka {w:World} {base:Nat} {e:TypeId} {size:Nat} {v:Value} {n:Nat} {xs:List Value} (h:w.ownsRow base e size v n xs): ∀g,v.ownBlock=some g→base≤g:=fun g hg=>by
 rcases h.2 with⟨rfl,_⟩|⟨g',cap,cur,rfl,hb,_⟩
 ·simp[Value.ownBlock]at hg
 ·have:g'=g:=by simpa[Value.ownBlock]using hg
  omega
theorem own_lies {w:World} {B e:Nat} {v:Value} {n:Nat} {xs:List Int} (h:w.ownsRow B e 1 v n (ints .u8 xs)) (hn:xs.length=n): ∃A c,v= .slice A n c∧n≤c∧Lies w A xs:=by
 have h0:=h
 rcases h.2 with⟨rfl,rfl⟩|⟨g,cap,cur,rfl,hb,hcell,hle,hm,_⟩
 ·exact⟨none,0,rfl,Nat.le_refl _,fun hp=>by omega⟩
 ·refine⟨_,cap,rfl,hle,fun _=>⟨g,0,rfl,?_,?_,fun j v hv=> ?_⟩⟩
  ·have:=(h0.lt g rfl).2;omega
  ·exact(h0.lt g rfl).2
  ·have hj:=(List.getElem?_eq_some_iff.1 hv).1
   rw[length_ints,hn]at hj
   rw[Nat.zero_add,h0.cellAt j (by omega)]
   exact hv
section
variable {P:Program} {w:World} {ops:Array Oper} {rest:List Oper} {o:Oper} {a:Act} {Q:Exit→Act→World→Prop}
end
def prL (n:Int):List Int:=if n<0 then 45::digL n.natAbs else digL n.natAbs
theorem zhQ: ∀(n:Nat),∀x∈digL n,48≤x∧x≤57:=fun n=>by
 induction n using Nat.strongRecOn with
 |_ n ih=>
  intro x hx
  by_cases h:n<10
  ·rw[zfc h]at hx
   simp at hx;omega
  ·rw[zfx h]at hx
   rcases List.mem_append.1 hx with hx|hx
   ·exact ih (n/10) (by omega) x hx
   ·simp at hx;omega
theorem zmg (n:Nat):Bytes (digL n):= .of_mem fun x hx=>by have:=zhQ n x hx;omega
theorem zkK (n:Int):Bytes (prL n):=by
 unfold prL
 split
 ·exact .of_mem fun x hx=>by
   rcases List.mem_cons.1 hx with rfl|hx
   ·decide
   ·have:=zhQ _ x hx;omega
 ·exact zmg _
theorem digL_valL: ∀(l:List Int),(∀x∈l,48≤x∧x≤57)→l≠[]→(49≤l.getD 0 0∨l.length=1)→digL (valL l)=l:=fun l=>by
 induction l using snocInd with
 |h0=>intro _ h _;exact absurd rfl h
 |h1 l c ih=>
  intro h _ h0
  have h2:=h c (by simp)
  by_cases hl:l=[]
  ·subst hl
   rw[zeo,zfc (by show 0*10+(c-48).toNat<10;omega)]
   show[48+(((0*10+(c-48).toNat:Nat)):Int)]=[c]
   have:(((0*10+(c-48).toNat:Nat)):Int)=c-48:=by omega
   rw[this];congr 1;omega
  ·have hg:(l++[c]).getD 0 0=l.getD 0 0:=by
    obtain⟨a,r,rfl⟩:=List.exists_cons_of_ne_nil hl
    rfl
   have hlen:(l++[c]).length≠1:=by
    have:=List.length_pos_iff.2 hl
    rw[List.length_append,List.length_cons,List.length_nil];omega
   have h49:49≤l.getD 0 0:=by
    rcases h0 with h0|h0
    ·rw[hg]at h0;exact h0
    ·exact absurd h0 hlen
   have h1:=ih (fun x hx=>h x (List.mem_append_left _ hx)) hl (.inl h49)
   have hpos:0<valL l:=by
    rcases Nat.eq_zero_or_pos (valL l)with hz|hz
    ·rw[hz,zfc (by decide)]at h1
     rw[←h1]at h49
     simp at h49
    ·exact hz
   rw[zeo,zfx (by omega)]
   have e1:(valL l*10+(c-48).toNat)/10=valL l:=by omega
   have e2:(((valL l*10+(c-48).toNat)%10:Nat):Int)=c-48:=by omega
   rw[e1,h1,e2]
   congr 2;omega
theorem prL_numL {l:List Int} (h:zbe l=true):prL (numL l)=l:=by
 rcases zdm h with⟨h45,hall,h49,he⟩|⟨h45,hall,hne,h1⟩
 ·have hv:digL (valL (l.drop 1))=l.drop 1:=digL_valL _ hall (fun e=>by rw[e]at h49;simp at h49) (.inl h49)
  have hpos:0<valL (l.drop 1):=by
   have:=valL_ge h49
   have:0<10^((l.drop 1).length-1):=Nat.pow_pos (by decide)
   omega
  unfold numL prL
  rw[if_pos h45,if_pos (by omega),show(-(valL (l.drop 1):Int)).natAbs=valL (l.drop 1)by omega,hv]
  exact he.symm
 ·unfold numL prL
  rw[if_neg h45,if_neg (by omega),show((valL l:Nat):Int).natAbs=valL l by omega,digL_valL _ hall hne h1]
theorem name_size {x:ByteArray} (h:zbh (strL x)=true):x.size≤32:=by
 have:=(zho h).2
 rwa [zaX]at this
def zbt:Bool→List ByteArray→List Int
 |_,[]=>[]
 |f,x::r=>(if f then[]else[32])++strL x++zbt false r
theorem zdd: ∀(l:List ByteArray) (f:Bool),Bytes (zbt f l)
 |[],_=> .of_mem (by simp[zbt])
 |x::r,f=>by
  simp only[zbt]
  refine((Bytes.append ?_ (zcj x)).append (zdd r false))
  cases f<;>exact .of_mem (by simp)
theorem zfo: ∀(a b:List ByteArray) (f:Bool),zbt f (a++b)=zbt f a++zbt (f&&a.isEmpty) b
 |[],b,f=>by simp[zbt]
 |x::r,b,f=>by
  simp only[List.cons_append,zbt,zfo r b false,Bool.false_and,List.isEmpty_cons,Bool.and_false,List.append_assoc]
theorem zlj {l:List ByteArray} {k:Nat} (h:k<l.length):zbt true (l.take (k+1))=(zbt true (l.take k)++(if k=0 then[]else[32]))++strL l[k]:=by
 rw[List.take_succ_eq_append_getElem h,zfo]
 cases k with
 |zero=>simp[zbt]
 |succ j=>
  have:(l.take (j+1)).isEmpty=false:=by
   rw[List.isEmpty_eq_false_iff]
   intro e
   have:=congrArg List.length e
   rw[List.length_take,List.length_nil]at this;omega
  rw[this]
  simp[zbt]
theorem zjm: ∀(l:List ByteArray) (f:Bool) (c:Nat),(∀x∈l,x.size≤c)→(zbt f l).length≤l.length*(c+1)
 |[],_,_,_=>by simp[zbt]
 |x::r,f,c,h=>by
  have ih:=zjm r false c (fun y hy=>h y (List.mem_cons_of_mem _ hy))
  have hx:=h x List.mem_cons_self
  simp only[zbt,List.length_append,zaX,List.length_cons,Nat.add_mul,Nat.one_mul]
  have:(if f then([]:List Int)else[32]).length≤1:=by cases f<;>simp
  omega
theorem zek (l:List ByteArray) (k:Nat):(zbt true (l.take k)).length≤(zbt true l).length:=by
 have:zbt true l=zbt true (l.take k)++zbt (true&&(l.take k).isEmpty) (l.drop k):=by rw[←zfo,List.take_append_drop]
 rw[this,List.length_append];omega
theorem zdk {ns:List ByteArray} (h:zeg ns=false):ns.length≤100∧ ∀x∈ns,x.size≤1000:=by
 unfold zeg at h
 rw[Bool.or_eq_false_iff,decide_eq_false_iff_not,List.any_eq_false]at h
 refine⟨by omega,fun x hx=> ?_⟩
 have:=h.2 x hx
 simp at this
 exact this
theorem RawN.slice {w:World} {v:Value} {ns:List ByteArray} (h:RawN w v ns) (hg:zeg ns=false):SliceN w v ns:=by
 obtain⟨A,c,e,hc,_,hl⟩:=h
 exact⟨A,c,e,hc,hl,fun x hx=>by have:=(zdk hg).2 x hx;omega⟩
theorem RawN.below {w w':World} {v:Value} {ns:List ByteArray} (h:RawN w v ns) (hb:Below w.heap.size w w'):RawN w' v ns:=by
 obtain⟨A,c,e,hc,h1,hl⟩:=h
 exact⟨A,c,e,hc,h1,hl.below hb⟩
theorem zlZ (v:Value) (ns:List ByteArray) (w:World) (h:SliceN w v ns) (hn:ns.length≤1000000) (ht:(zbt true ns).length≤1000000000):
  Calls Tryz.prog 64 #[v] w fun e w'=>e= .returned (.string (toS (zbt true ns)))∧Below w.heap.size w w':=by
 obtain⟨A,c,rfl,hc,hl,hok⟩:=h
 obtain⟨n,hnn⟩: ∃n,n=ns.length:=⟨_,rfl⟩
 rw[←hnn]at hc hn⊢
 have HN:=Lib.hid hnn
 have HL:=Lib.hid hl
 have HT:=Lib.hid ht
 obtain⟨T,hT⟩: ∃T,T=toS (zbt true ns):=⟨_,rfl⟩
 rw[←hT]
 have HTT:=Lib.hid hT
 clear hnn hl hok ht hT
 go_enter Tryz.func64,Tryz.ntmps64
 go_wp2
 go_loopw[3,4] (fun sv i wr=> ∃(k:Nat) (t:ByteArray),k≤n∧i= .int .i64 (k:Int)∧sv= .string t∧t=toS (zbt true (ns.take k))∧Below w.heap.size w wr) (fun _ i _=>n-(intOf i).toNat)
 case atStart=>exact⟨0,⟨#[]⟩,Nat.zero_le _,rfl,rfl,by rw[List.take_zero];rfl,Below.refl _ _⟩
 case round=>
  obtain⟨k,t,hk,rfl,rfl,htt,hbel⟩:=hrel
  have HBE:=Lib.hid hbel
  have HTX:=Lib.hid htt
  have hts:t.size≤1000000000:=by
   rw[htt,zap];exact Nat.le_trans (zek ns k) HT.out
  clear hbel htt
  by_cases hlt:k<n
  ·have hkl:k<ns.length:=by rw[←HN.out];exact hlt
   obtain⟨b,o,rfl,hbl,hcell0⟩:=HL.out.at hkl
   have hcell:=(HBE.out.cell (p:=⟨b,o+k,none⟩) hbl).trans hcell0
   have hi0:(0:Int)≤(k:Int):=by omega
   have HST:=Lib.hid (zlj hkl)
   have hxs:ns[k].size≤1000000000:=by
    have h1:=zek ns (k+1)
    rw[HST.out,List.length_append,zaX]at h1
    have:=HT.out
    omega
   obtain⟨x,hx⟩: ∃x,x=ns[k]:=⟨_,rfl⟩
   rw[←hx]at hcell HST hxs
   clear hx hkl hcell0 hbl
   cases k with
   |zero=>
    rw[if_pos rfl,List.append_nil]at HST
    rw[Nat.add_zero]at hcell
    have HNX:Hid (t++x=toS (zbt true (ns.take (0+1)))):=Lib.hid (by rw[HST.out,←zcd (zdd _ _) (zcj x),zhW,←HTX.out])
    have hsum:t.size+x.size≤9223372036854775807:=by omega
    go_wp2
    go_roundw
    case rel=>exact⟨1,_,by omega,by go_num,rfl,HNX.out,HBE.out⟩
    case measure=>simp[intOf];omega
   |succ j=>
    rw[if_neg (by omega)]at HST
    have hj2:(0:Int)<(j:Int)+1:=by omega
    have HNX:Hid (t++⟨#[32]⟩++x=toS (zbt true (ns.take (j+1+1)))):=Lib.hid (by
     rw[HST.out,←zcd ((zdd _ _).append (.of_mem (by simp))) (zcj x),zhW,←zcd (zdd _ _) (.of_mem (by simp)),←HTX.out];rfl)
    have hone:(⟨#[32]⟩:ByteArray).size=1:=rfl
    have hs1:t.size+(⟨#[32]⟩:ByteArray).size≤9223372036854775807:=by omega
    have hs1':t.size+1≤9223372036854775807:=by omega
    have hs2:(t++⟨#[32]⟩).size+x.size≤9223372036854775807:=by rw[ByteArray.size_append];omega
    have hs3:t.size+1+x.size≤9223372036854775807:=by omega
    have hs4:t.size+(⟨#[32]⟩:ByteArray).size+x.size≤9223372036854775807:=by omega
    clear hone
    go_wp2
    go_roundw
    case rel=>exact⟨j+2,_,by omega,by go_num,rfl,HNX.out,HBE.out⟩
    case measure=>simp[intOf];omega
  ·obtain rfl:k=n:=by omega
   have HTA:Hid (t=T):=Lib.hid (by rw[HTX.out,HN.out,List.take_length,HTT.out])
   clear hlt
   go_wp2
   go_ret
   exact⟨by rw[HTA.out];rfl,HBE.out⟩
end Go.Proofs.YtjfgmgkhinehaaaGreatDoor
