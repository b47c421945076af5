
import Derived.Lib.Builder
import Derived.Lib.AppendStr
import Derived.Lib.UnsafeStr
import Derived.Lib.Slices
import Derived.Lib.Walk
import Derived.Laws.Externs
import Derived.Laws.Cover1
import Derived.Test.YtjfgmgkhinehaaaGreatDoorCq13
import Derived.Test.YtjfgmgkhinehaaaGreatDoorCq15
set_option maxRecDepth 100000
set_option maxHeartbeats 16000000
set_option linter.all false
namespace Go.Proofs.YtjfgmgkhinehaaaGreatDoor
open Go Go.RowKit
theorem bldInfo:(Tryz.prog.info? 128).map (·.size)=some 2:=by kernel_rfl
theorem bldLies:liesAt Tryz.prog Tryz.prog.depth 128 (2/Tryz.prog.cellsOf 128) 0 128 1=true:=by kernel_rfl
theorem byteInfo:(Tryz.prog.info? 5).map (fun i=>(i.zero,i.size,i.bytes))=some (some (.int .u8 0),1,1):=by kernel_rfl
abbrev IsBld (B b:Nat) (bs:List Value) (w:World):Prop:=Lib.IsBuilder 128 5 B b bs w
theorem zoY (b:Nat) (w:World) (h0:w.cell? ⟨b,0,none⟩=some (.pointer (some ⟨b,0,none⟩))):
  Calls Tryz.prog 123 #[.pointer (some ⟨b,0,none⟩)] w fun e w'=>e= .returned (.tuple #[])∧w'=w:=by
 obtain⟨j,hj,_⟩:=Option.map_eq_some_iff.1 bldInfo
 have hne:=Lib.run_neq_ptr_same (P:=Tryz.prog) w ⟨b,0,none⟩ Tryz.underlying126 hj
 go_enter Tryz.func123,Tryz.ntmps123
 go_wp2
 go_end0
 exact⟨rfl,rfl⟩
theorem zld (b:Nat) (w:World) (h0:w.cell? ⟨b,0,none⟩=some (.pointer none)) (hsh:w.shape? b=some (128,2)) (hfz:w.frozen? ⟨b,0,none⟩=false):
  Calls Tryz.prog 123 #[.pointer (some ⟨b,0,none⟩)] w fun e w'=>e= .returned (.tuple #[])∧w'=w.setCell ⟨b,0,none⟩ (.pointer (some ⟨b,0,none⟩)):=by
 obtain⟨j,hj,hjs⟩:=Option.map_eq_some_iff.1 bldInfo
 have h1:=Lib.run_to_unsafe (P:=Tryz.prog) w ⟨b,0,none⟩ Tryz.underlying126 Tryz.underlying142 hj (by rw[hjs];decide) hsh (Nat.zero_lt_succ 1)
 have h2: ∀args w,(callFunc 153 args).run Tryz.prog w=_:=fun args w=>run_callFunc_extern Tryz.func153 (by kernel_rfl) (by kernel_rfl) (by kernel_rfl) (e:=Extern.AbiNoEscape.same) (by kernel_rfl) args w
 have h3:=Lib.run_from_unsafe (P:=Tryz.prog) w ⟨b,0,none⟩ Tryz.underlying142 Tryz.underlying126 hj hsh bldLies
 go_enter Tryz.func123,Tryz.ntmps123
 go_wp2
 rw[Lib.run_noEscape]
 simp only[Result.andThen]
 rw[Oper.upon_value]
 go_wp2
 go_end0
 exact⟨rfl,rfl⟩
theorem bldCheck_any (B b:Nat) (bs:List Value) (w:World) (h:IsBld B b bs w):
  Calls Tryz.prog 123 #[.pointer (some ⟨b,0,none⟩)] w fun e w'=>e= .returned (.tuple #[])∧(Lib.BuilderAt 128 5 B b (.pointer (some ⟨b,0,none⟩)) bs w'∧Below B w w'):=by
 rcases h with h|h
 ·refine(zld b w h.cell0 h.shape h.frozen0).mono ?_
  rintro e w' ⟨rfl,rfl⟩
  exact⟨rfl,h.used _,(Below.refl B w).setCell (p:=⟨b,0,none⟩) h.1 _⟩
 ·refine(zoY b w h.cell0).mono ?_
  rintro e w' ⟨rfl,rfl⟩
  exact⟨rfl,h,Below.refl B _⟩
theorem zeQ (B b:Nat) (bs:List Value) (s:ByteArray) (w:World) (h:IsBld B b bs w) (hlen:bs.length+s.size≤140737488355328) (hBw:B≤w.heap.size):
  Calls Tryz.prog 88 #[.pointer (some ⟨b,0,none⟩),.string s] w fun e w'=>e= .returned (.tuple #[.int .i64 s.size,.nilIface])∧IsBld B b (bs++Lib.strCells s) w'∧Below B w w':=by
 obtain⟨i0,hi,hz0,hz1,hz2⟩:=info_parts byteInfo
 have HC:=Lib.hid (bldCheck_any B b bs w h)
 clear h
 go_enter Tryz.func88,Tryz.ntmps88
 go_wp2_with(go_at_call 123;refine HC.out.mono ?_)
 rintro e w1 ⟨rfl,h1,hb1⟩
 obtain⟨hB,v,hbk,hown,hne⟩:=h1
 have c0:w1.cell? ⟨b,0,none⟩=some (.pointer (some ⟨b,0,none⟩)):=by rw[Lib.cell_of_heap hbk];rfl
 have c1:w1.cell? ⟨b,1,none⟩=some v:=by rw[Lib.cell_of_heap hbk];rfl
 go_wp2_with(at_builtin;refine Lib.wpList_append_own_string _ rfl _ _ 80 9 rfl B 5 i0 Tryz.underlying80 Tryz.underlying9 hi hz0 hz1 hz2 _ _ _ rfl hown s rfl ?c3 ?c4 ?c5 ?_)
 case c3=>unfold maxLen;omega
 case c4=>omega
 case c5=>have:=hb1.size;omega
 intro v' w2 hown' hgrow _
 have hlt:b<w1.heap.size:=by
  rcases Nat.lt_or_ge b w1.heap.size with h'|h'
  ·exact h'
  ·simp[Array.getElem?_eq_none h']at hbk
 have hb2:w2.heap[b]? =some (.cells #[.pointer (some ⟨b,0,none⟩),v] 128 (0,0)):=by
  rw[hgrow.block b hlt (fun e=>hne e.symm)]
  exact hbk
 have d0:w2.cell? ⟨b,0,none⟩=some (.pointer (some ⟨b,0,none⟩)):=by rw[Lib.cell_of_heap hb2];rfl
 have d1:w2.cell? ⟨b,1,none⟩=some v:=by rw[Lib.cell_of_heap hb2];rfl
 have f1:w2.frozen? ⟨b,1,none⟩=false:=Lib.frozen_of_heap hb2 1
 obtain⟨ao,n',cap,rfl⟩: ∃ao n' cap,v'= .slice ao n' cap:=by
  rcases hown'.2 with⟨hv,_⟩|⟨g,cap,cur,hv,_⟩
  ·exact⟨_,_,_,hv⟩
  ·exact⟨_,_,_,hv⟩
 go_wp2
 go_ret2
 refine⟨rfl,.inr ?_,?_⟩
 ·exact Lib.BuilderAt.put (T:=128) (e:=5) hB hb2 (bs':=bs++Lib.strCells s) (by simpa[Lib.strCells_length]using hown') (by decide)
 ·exact(hb1.grown hgrow (by have:=hb1.size;omega) (fun k hk=>(hown.lt k hk).1)).setCell (p:=⟨b,1,none⟩) hB _
theorem IsBld.kept {B b rb:Nat} {bs:List Value} {w w':World} (h:IsBld B b bs w) (hg:w.grownBy w' (some rb)) (hrb:rb<B):IsBld B b bs w':=by
 have key: ∀p,Lib.BuilderAt 128 5 B b p bs w→Lib.BuilderAt 128 5 B b p bs w':=fun p h=>by
  have hlt:=Lib.BuilderAt.lt h
  obtain⟨hB,v,hbk,hown,hne⟩:=h
  refine⟨hB,v,(hg.block b hlt (by intro e;injection e with e;omega)).trans hbk,hown.kept hg ?_,hne⟩
  refine .inr (fun e=> ?_)
  have:=(hown.lt rb e).1
  omega
 exact h.imp (key _) (key _)
theorem zfX (s:ByteArray):Lib.strCells s=ints .u8 (strL s):=by
 simp[Lib.strCells,ints,strL]
theorem zoW {l:List Int} (h:Bytes l):Lib.byteCells (toU l)=ints .u8 l:=by
 simp only[Lib.byteCells,toU,List.map_map,ints]
 refine List.map_congr_left fun x hx=> ?_
 simp only[Function.comp]
 rw[toU_nat (h.mem hx)]
theorem bldString (B b:Nat) (l:List Int) (w:World) (hl:Bytes l) (h:IsBld B b (ints .u8 l) w) (hBw:B≤w.heap.size):
  Calls Tryz.prog 89 #[.pointer (some ⟨b,0,none⟩)] w fun e w'=>e= .returned (.string (toS l))∧Below B w w':=
 Tryz.Builder_String_any B b (toU l) w (by rw[zoW hl];exact h) hBw
def chkG:Option ByteArray→List ByteArray→Bool
 |_,[]=>true
 |p,x::r=>zbh (strL x)&&(match p with|none=>true|some q=>ltS q x)&&chkG (some x) r
def zgc (l:List ByteArray):Nat→Option ByteArray
 |0=>none
 |k+1=>l[k]?
def zdc (l:List ByteArray):Bool:=decide (l.length≤16)&&chkG none l
theorem chk_at0 {l:List ByteArray} (h:0<l.length):chkG (zgc l 0) (l.drop 0)=(zbh (strL l[0])&&chkG (zgc l 1) (l.drop 1)):=by
 cases l with
 |nil=>simp at h
 |cons x r=>simp[zgc,chkG]
theorem chk_at1 {l:List ByteArray} {k:Nat} (h:k+1<l.length):chkG (zgc l (k+1)) (l.drop (k+1))=(zbh (strL l[k+1])&&ltS l[k] l[k+1]&&chkG (zgc l (k+2)) (l.drop (k+2))):=by
 rw[List.drop_eq_getElem_cons h]
 simp only[zgc,List.getElem?_eq_getElem h,List.getElem?_eq_getElem (show k<l.length by omega),chkG]
def SErr (ok:Bool):Value:=if ok then .nilIface else .iface 95 (.int .i64 70)
theorem checkP_any (v:Value) (ns:List ByteArray) (w:World) (h:SliceN w v ns) (hn:ns.length≤1000000000):
  Calls Tryz.prog 58 #[v] w fun e w'=>e= .returned (SErr (zdc ns))∧w=w':=by
 obtain⟨A,c,rfl,hc,hl, -⟩:=h
 obtain⟨n,hnn⟩: ∃n,n=ns.length:=⟨_,rfl⟩
 obtain⟨R,hR⟩: ∃R,R=zdc ns:=⟨_,rfl⟩
 rw[←hR]
 rw[←hnn]at hc hn⊢
 have HN:=Lib.hid hnn
 have HL:=Lib.hid hl
 have HR:=Lib.hid hR
 clear hnn hl hR
 by_cases hg:16<n
 ·have hgI:(16:Int)<(n:Int):=by omega
  have HT:Hid (R=false):=Lib.hid (by rw[HR.out];unfold zdc;rw[←HN.out,decide_eq_false (by omega),Bool.false_and])
  clear hg
  go_enter Tryz.func58,Tryz.ntmps58
  go_wp2
  go_ret
  exact⟨by rw[HT.out];rfl,rfl⟩
 ·have hgI: ¬(16:Int)<(n:Int):=by omega
  have HR2:Hid (R=chkG none ns):=Lib.hid (by rw[HR.out];unfold zdc;rw[←HN.out,decide_eq_true (by omega),Bool.true_and])
  have hg2:n≤16:=by omega
  clear hg HR
  go_enter Tryz.func58,Tryz.ntmps58
  go_wp2
  go_loop [11] (fun i=> ∃k:Nat,k≤n∧i= .int .i64 (k:Int)∧R=chkG (zgc ns k) (ns.drop k)) (fun i=>n-(intOf i).toNat)
  case atStart=>exact⟨0,Nat.zero_le _,rfl,HR2.out⟩
  case round=>
   obtain⟨k,hk,rfl,hrun⟩:=hrel
   have HRUN:=Lib.hid hrun
   clear hrun
   by_cases hlt:k<n
   ·have hkl:k<ns.length:=by rw[←HN.out];exact hlt
    obtain⟨b,o,rfl,_,hcell⟩:=HL.out.at hkl
    have hi0:(0:Int)≤(k:Int):=by omega
    have HNM:=Lib.hid (fun W=>zgJ ns[k] W)
    cases k with
    |zero=>
     have HST:=Lib.hid (chk_at0 hkl)
     obtain⟨x,hx⟩: ∃x,x=ns[0]:=⟨_,rfl⟩
     rw[←hx]at hcell HNM HST
     rw[Nat.add_zero]at hcell
     clear hx hkl
     cases hnb:zbh (strL x)with
     |false=>
      rw[hnb]at HNM HST
      have HT:Hid (R=false):=Lib.hid (by rw[HRUN.out,HST.out,Bool.false_and])
      clear hnb
      go_wp2_with(go_at_call 57;(with_reducible refine(HNM.out _).mono ?_);rintro e w' ⟨rfl,rfl⟩)
      go_ret
      exact⟨by rw[HT.out];rfl,rfl⟩
     |true=>
      rw[hnb]at HNM HST
      have HT:Hid (R=chkG (zgc ns 1) (ns.drop 1)):=Lib.hid (by rw[HRUN.out,HST.out,Bool.true_and])
      clear hnb
      go_wp2_with(go_at_call 57;(with_reducible refine(HNM.out _).mono ?_);rintro e w' ⟨rfl,rfl⟩)
      go_round
      case rel=>exact⟨1,by omega,by go_num,HT.out⟩
      case measure=>simp[intOf];omega
    |succ j=>
     have HST:=Lib.hid (chk_at1 hkl)
     have hcell2:w.cell? ⟨b,o+j,none⟩=some (.string ns[j]):=by
      obtain⟨b',o',e,_,hc'⟩:=HL.out.at (show j<ns.length by omega)
      injection e with e;injection e with e1 e2
      subst e1;subst e2;exact hc'
     have hj0:(0:Int)≤(j:Int):=by omega
     have hj1:(j:Int)<(n:Int):=by omega
     have hj2:(0:Int)<(j:Int)+1:=by omega
     obtain⟨x,hx⟩: ∃x,x=ns[j+1]:=⟨_,rfl⟩
     obtain⟨y,hy⟩: ∃x,x=ns[j]'(by omega):=⟨_,rfl⟩
     rw[←hx]at hcell HNM HST
     rw[←hy]at hcell2 HST
     clear hx hkl hy
     cases hnb:zbh (strL x)with
     |false=>
      rw[hnb]at HNM HST
      have HT:Hid (R=false):=Lib.hid (by rw[HRUN.out,HST.out,Bool.false_and,Bool.false_and])
      clear hnb
      go_wp2_with(go_at_call 57;(with_reducible refine(HNM.out _).mono ?_);rintro e w' ⟨rfl,rfl⟩)
      go_ret
      exact⟨by rw[HT.out];rfl,rfl⟩
     |true=>
      rw[hnb]at HNM HST
      clear hnb
      cases hlx:ltS y x with
      |false=>
       have hb1:Op.bytesLess y.toList x.toList=false:=hlx
       have HT:Hid (R=false):=Lib.hid (by rw[HRUN.out,HST.out,hlx];rfl)
       clear hlx
       go_wp2_with(go_at_call 57;(with_reducible refine(HNM.out _).mono ?_);rintro e w' ⟨rfl,rfl⟩)
       go_ret
       exact⟨by rw[HT.out];rfl,rfl⟩
      |true=>
       have hb1:Op.bytesLess y.toList x.toList=true:=hlx
       have HT:Hid (R=chkG (zgc ns (j+2)) (ns.drop (j+2))):=Lib.hid (by rw[HRUN.out,HST.out,hlx];rfl)
       clear hlx
       go_wp2_with(go_at_call 57;(with_reducible refine(HNM.out _).mono ?_);rintro e w' ⟨rfl,rfl⟩)
       go_round
       case rel=>exact⟨j+2,by omega,by go_num,HT.out⟩
       case measure=>simp[intOf];omega
   ·obtain rfl:k=n:=by omega
    have HT:Hid (R=true):=Lib.hid (by rw[HRUN.out,HN.out,List.drop_length,chkG])
    clear hlt
    go_wp2
    go_ret
    exact⟨by rw[HT.out];rfl,rfl⟩
abbrev MaxLS (w:World):Prop:= ∃m,w.cell? ⟨1,0,none⟩=some (.int .i64 m)
theorem MaxLS.below {w w':World} (h:MaxLS w) (hb:Below w.heap.size w w'):MaxLS w':=by
 obtain⟨m,hm⟩:=h
 exact⟨m,(hb.cell (p:=⟨1,0,none⟩) (zab hm)).trans hm⟩
theorem cutS_any (s:ByteArray) (w:World) (hm:MaxLS w) (hs:s.size≤1000000000):
  Calls Tryz.prog 154 #[.string s,.string ⟨#[32]⟩] w fun e w'=>e= .returned (.tuple #[.string (ofL (Lib.cut (nmL s) [32]).1),.string (ofL (Lib.cut (nmL s) [32]).2.1),.bool (Lib.cut (nmL s) [32]).2.2])∧Below w.heap.size w w':=by
 obtain⟨m,hm⟩:=hm
 refine(Tryz.strings_Cut s ⟨#[32]⟩ m w (by omega) hm).mono ?_
 rintro e w' ⟨rfl,n,rfl⟩
 exact⟨rfl,zcQ (Below.refl _ _) n⟩
def zfe (s:ByteArray) (w:World) (e:Ending) (w':World):Prop:=
 ∃v,e= .returned (.tuple #[v,SErr (okW (zcy s))])∧SliceN w' v (zcY s)∧Below w.heap.size w w'
theorem zly {s:ByteArray} (h:okW (zcy s)=false):zcY s=[]:=by unfold zcY;rw[h];rfl
theorem parsed_good {s:ByteArray} (h:okW (zcy s)=true):zcY s=setS (zcy s):=by unfold zcY;rw[if_pos h]
theorem size_ofL (l:List UInt8):(ofL l).size=l.length:=rfl
theorem setS_set (a:List ByteArray) (x:ByteArray):setS (setS a++[x])=setS (a++[x]):=setS_congr fun y=>by simp[mem_setS]
theorem parseS_any (s:ByteArray) (w:World) (hm:MaxLS w) (hs:s.size≤1000000000):
  Calls Tryz.prog 125 #[.string s] w (zfe s w):=by
 by_cases h0:s.size=0
 ·obtain rfl:s=⟨#[]⟩:=by
   obtain⟨d⟩:=s
   have:d.size=0:=h0
   rw[Array.eq_empty_of_size_eq_zero this]
  go_enter Tryz.func125,Tryz.ntmps125
  go_wp2
  refine wp_loop_rounds 1 ?_
  rw[rounds_succ]
  go_wp2
  go_ret2
  exact⟨_,rfl,SliceN.nil _,Below.refl _ _⟩
 ·have hne:(s.toList==(⟨#[]⟩:ByteArray).toList)=false:=by
   rw[show(⟨#[]⟩:ByteArray).toList=[]by rw[ByteArray.toList_eq],beq_eq_false_iff_ne,ByteArray.toList_eq]
   intro e
   apply h0
   show s.data.size=0
   rw[←Array.length_toList,e];rfl
  have HE:Hid (s.toList.isEmpty=false):=Lib.hid (by
   rw[List.isEmpty_eq_false_iff]
   intro e
   rw[e,show(⟨#[]⟩:ByteArray).toList=[]by rw[ByteArray.toList_eq]]at hne
   simp at hne)
  have HTW:Hid (zcy s=zda s):=Lib.hid (by unfold zcy;rw[if_neg h0])
  have HM:=Lib.hid hm
  obtain⟨s0,hs0⟩: ∃t,t=s:=⟨_,rfl⟩
  rw[←hs0]at HTW
  have HW0:Hid (zcy s0=[]++zda s):=Lib.hid (by rw[HTW.out,hs0];rfl)
  show Calls _ _ _ _ (zfe s w)
  rw[show zfe s w=zfe s0 w by rw[hs0]]
  clear h0 hm HTW hs0
  go_enter Tryz.func125,Tryz.ntmps125
  go_wp2
  go_loopw[0,4,5] (fun sv lv mv wr=> ∃(done:List ByteArray) (t:ByteArray),sv= .string t∧t.size≤1000000000∧SliceN wr lv (setS done)∧(setS done).length≤16∧(∀x∈done,zbh (strL x)=true)∧Below w.heap.size w wr∧((mv= .bool true∧zcy s0=done++zda t)∨(mv= .bool false∧zcy s0=done))) (fun sv _ mv _=>match mv,sv with| .bool true,.string t=>t.size+1|_,_=>0)
  case atStart=>exact⟨[],s,rfl,hs,SliceN.nil _,by simp[setS],by simp,Below.refl _ _,.inl ⟨by rw[HE.out];rfl,HW0.out⟩⟩
  case round=>
   clear HW0 hs hne HE
   obtain⟨done,t,rfl,ht,hsl,hle,hall,hbel,⟨rfl,hw⟩|⟨rfl,hw⟩⟩:=hrel
   ·have HSL:=Lib.hid hsl
    obtain⟨A4,c4,rfl, -⟩:=hsl
    obtain⟨q,hq⟩: ∃q,q=(setS done).length:=⟨_,rfl⟩
    rw[←hq]at HSL hle⊢
    have HQ:=Lib.hid hq
    have hq16:=hle
    clear hq
    have HLE:=Lib.hid hle
    have HALL:=Lib.hid hall
    have HBE:=Lib.hid hbel
    have HWD:=Lib.hid hw
    clear hle hall hbel hw
    have HCUT:=Lib.hid (cutS_any t wr (HM.out.below HBE.out) (by omega))
    obtain⟨nm,hnm⟩: ∃x,x=ofL (Lib.cut (nmL t) [32]).1:=⟨_,rfl⟩
    obtain⟨rest,hrest⟩: ∃x,x=ofL (Lib.cut (nmL t) [32]).2.1:=⟨_,rfl⟩
    obtain⟨more,hmore⟩: ∃x,x=(Lib.cut (nmL t) [32]).2.2:=⟨_,rfl⟩
    have hcw:=cut_words t
    rw[←hnm,←hrest,←hmore]at HCUT
    rw[←hnm,←hmore]at hcw
    rw[←hrest]at hcw
    have hsn:nm.size≤1000000000:=by
     rw[hnm,size_ofL]
     rcases hcw with⟨_,_,_,h⟩|⟨_,_,h,_⟩<;>omega
    have hsr:rest.size≤1000000000∧(more=true→rest.size<t.size):=by
     rw[hrest,size_ofL]
     rcases hcw with⟨_,_,h,_⟩|⟨h1,_,_,h⟩
     ·exact⟨by omega,fun _=>h⟩
     ·exact⟨by omega,fun h2=>by rw[h1]at h2;cases h2⟩
    have hww:(more=true∧zcy s0=(done++[nm])++zda rest)∨(more=false∧zcy s0=done++[nm]):=by
     rcases hcw with⟨h1,h2,_⟩|⟨h1,h2,_⟩
     ·exact .inl ⟨h1,by rw[HWD.out,h2];simp⟩
     ·exact .inr ⟨h1,by rw[HWD.out,h2]⟩
    have HWW:=Lib.hid hww
    have HNIN:Hid (nm∈zcy s0):=Lib.hid (by rcases hww with⟨_,h⟩|⟨_,h⟩<;>rw[h]<;>simp)
    have HRS:=Lib.hid hsr
    clear hcw hww hnm hrest hmore HWD hsr
    have HNM:=Lib.hid (fun W=>zgJ nm W)
    cases hnb:zbh (strL nm)with
    |false=>
     have HBAD:Hid (okW (zcy s0)=false):=Lib.hid (okW_bad HNIN.out hnb)
     rw[hnb]at HNM
     clear hnb
     go_wp2_with(first
      |(go_at_call 154;(with_reducible refine HCUT.out.mono ?_);rintro e w2 ⟨rfl,hb2⟩;have HB2:=Lib.hid (HBE.out.trans (hb2.mono HBE.out.size));clear hb2)
      |(go_at_call 57;(with_reducible refine(HNM.out _).mono ?_);rintro e w3 ⟨rfl,rfl⟩))
     go_ret2
     exact⟨.slice none 0 0,by rw[HBAD.out];rfl,by rw[zly HBAD.out];exact SliceN.nil _,HB2.out⟩
    |true=>
     rw[hnb]at HNM
     have HNB:=Lib.hid hnb
     clear hnb
     have HHAS:=Lib.hid (fun W (hW:Below wr.heap.size wr W)=>hasP_any (.slice A4 q c4) (setS done) nm W (HSL.out.below hW) (by rw[←HQ.out];omega))
     cases hh:hasN (setS done) nm with
     |true=>
      have HSD:Hid (setS (done++[nm])=setS done):=Lib.hid (by rw[zhc];unfold putS;rw[if_pos hh])
      rw[hh]at HHAS
      clear hh
      go_wp2_with(first
       |(go_at_call 154;(with_reducible refine HCUT.out.mono ?_);rintro e w2 ⟨rfl,hb2⟩;have HB2:=Lib.hid (HBE.out.trans (hb2.mono HBE.out.size));have HH2:=Lib.hid (HHAS.out w2 hb2);have HSL2:=Lib.hid (HSL.out.below hb2);clear hb2)
       |(go_at_call 57;(with_reducible refine(HNM.out _).mono ?_);rintro e w3 ⟨rfl,rfl⟩)
       |(go_at_call 102;(with_reducible refine HH2.out.mono ?_);rintro e w3 ⟨rfl,rfl⟩))
      refine⟨⟨done++[nm],rest,rfl,HRS.out.1,by rw[HSD.out];exact HSL2.out,by rw[HSD.out,←HQ.out];exact HLE.out,?_,HB2.out,?_⟩,?_⟩
      ·intro y hy
       rcases List.mem_append.1 hy with hy|hy
       ·exact HALL.out y hy
       ·rw[List.mem_singleton.1 hy];exact HNB.out
      ·rcases HWW.out with⟨h1,h2⟩|⟨h1,h2⟩
       ·exact .inl ⟨by rw[h1],h2⟩
       ·exact .inr ⟨by rw[h1],h2⟩
      ·cases more with
       |true=>have:=HRS.out.2 rfl;show rest.size+1<t.size+1;omega
       |false=>show 0<t.size+1;omega
     |false=>
      rw[hh]at HHAS
      have HLN:Hid ((setS (done++[nm])).length=q+1):=Lib.hid (by rw[zhc,zgv,if_neg (by rw[hh];simp),HQ.out])
      clear hh
      by_cases h16:q=16
      ·have HBAD:Hid (okW (zcy s0)=false):=Lib.hid (by
        have hm:16<(setS (done++[nm])).length:=by rw[HLN.out];omega
        rcases HWW.out with⟨_,h2⟩|⟨_,h2⟩
        ·rw[h2];exact znn hm
        ·rw[h2,←List.append_nil (done++[nm])];exact znn hm)
       have hq:((q:Int)==16)=true:=by simp[h16]
       clear h16
       go_wp2_with(first
       |(go_at_call 154;(with_reducible refine HCUT.out.mono ?_);rintro e w2 ⟨rfl,hb2⟩;have HBW:=Lib.hid hb2;have HB2:=Lib.hid (HBE.out.trans (hb2.mono HBE.out.size));have HH2:=Lib.hid (HHAS.out w2 hb2);have HSL2:=Lib.hid (HSL.out.below hb2);clear hb2)
       |(go_at_call 57;(with_reducible refine(HNM.out _).mono ?_);rintro e w3 ⟨rfl,rfl⟩)
       |(go_at_call 102;(with_reducible refine HH2.out.mono ?_);rintro e w4 ⟨rfl,rfl⟩))
       go_ret2
       exact⟨.slice none 0 0,by rw[HBAD.out];rfl,by rw[zly HBAD.out];exact SliceN.nil _,HB2.out⟩
      ·have hq:((q:Int)==16)=false:=by rw[beq_eq_false_iff_ne];omega
       have hq15:q+1≤16:=by omega
       have HALLC:=Lib.hid (fun W (hW:Below wr.heap.size wr W)=>scAll_any (.slice A4 q c4) (.slice (some ⟨W.heap.size,0,none⟩) 1 1) (setS done) [nm] (W.alloc (.cells #[.string nm] 9)) ((HSL.out.below hW).below (zaf _ _)) ⟨_,1,rfl,Nat.le_refl _,fun _=>⟨W.heap.size,0,rfl,by simp,fun i x hi=>by
        match i,hi with
        |0,hi=>simp at hi;subst hi;simp⟩,fun x hx=>by rw[List.mem_singleton.1 hx];omega⟩ (by rw[←HQ.out];simp;omega))
       clear h16
       go_wp2_with(first
       |(go_at_call 154;(with_reducible refine HCUT.out.mono ?_);rintro e w2 ⟨rfl,hb2⟩;have HBW:=Lib.hid hb2;have HB2:=Lib.hid (HBE.out.trans (hb2.mono HBE.out.size));have HH2:=Lib.hid (HHAS.out w2 hb2);have HSL2:=Lib.hid (HSL.out.below hb2);clear hb2)
       |(go_at_call 57;(with_reducible refine(HNM.out _).mono ?_);rintro e w3 ⟨rfl,rfl⟩)
       |(go_at_call 102;(with_reducible refine HH2.out.mono ?_);rintro e w4 ⟨rfl,rfl⟩)
        |(go_at_call 77;(with_reducible refine(HALLC.out _ HBW.out).mono ?_);rintro e w5 ⟨v5,rfl,hs5,hb5⟩;have HS5:=Lib.hid hs5;have HB5:=Lib.hid (HB2.out.trans (((zaf _ _).trans (hb5.mono (zaf _ _).size)).mono HB2.out.size));clear hs5 hb5))
       refine⟨⟨done++[nm],rest,rfl,HRS.out.1,by rw[←setS_set];exact HS5.out,by rw[HLN.out];exact hq15,?_,HB5.out,?_⟩,?_⟩
       ·intro y hy
        rcases List.mem_append.1 hy with hy|hy
        ·exact HALL.out y hy
        ·rw[List.mem_singleton.1 hy];exact HNB.out
       ·rcases HWW.out with⟨h1,h2⟩|⟨h1,h2⟩
        ·exact .inl ⟨by rw[h1],h2⟩
        ·exact .inr ⟨by rw[h1],h2⟩
       ·cases more with
        |true=>have:=HRS.out.2 rfl;show rest.size+1<t.size+1;omega
        |false=>show 0<t.size+1;omega
   ·have HSL:=Lib.hid hsl
    have HBE:=Lib.hid hbel
    have HGOOD:Hid (okW (zcy s0)=true):=Lib.hid (by rw[hw];exact okW_good hall hle)
    have HPN:Hid (zcY s0=setS done):=Lib.hid (by rw[parsed_good HGOOD.out,hw])
    clear hsl hbel hw hall hle
    go_wp2
    go_ret2
    exact⟨_,by rw[HGOOD.out];rfl,by rw[HPN.out];exact HSL.out,HBE.out⟩
theorem leq_other {a b:ByteArray} (h:Op.bytesLess a.toList b.toList=true):Op.bytesLess b.toList a.toList=false∧(b.toList==a.toList)=false:=
 ⟨bl_asymm h,by rw[beq_eq_false_iff_ne];exact fun e=>by rw[e,zkt]at h;cases h⟩
theorem leq_not {a b:ByteArray} (h:Op.bytesLess a.toList b.toList=false):(Op.bytesLess b.toList a.toList=true)∨(Op.bytesLess b.toList a.toList=false∧(b.toList==a.toList)=true):=by
 cases h2:Op.bytesLess b.toList a.toList with
 |true=>exact .inl rfl
 |false=>exact .inr ⟨rfl,by rw[beq_iff_eq];exact ziQ _ _ h2 h⟩
theorem chk_some {l:List ByteArray} {k:Nat} (h0:0<k) (h:k<l.length): ∃pp,l[k-1]? =some pp∧chkG (zgc l k) (l.drop k)=(zbh (strL l[k])&&ltS pp l[k]&&chkG (zgc l (k+1)) (l.drop (k+1))):=by
 cases k with
 |zero=>omega
 |succ j=>exact⟨l[j],List.getElem?_eq_getElem (by omega),chk_at1 h⟩
theorem zng (v:Value) (ns:List ByteArray) (w:World) (h:SliceN w v ns) (hn:ns.length≤1000000000):
  Calls Tryz.prog 61 #[v] w fun e w'=>e= .returned (.bool (zdc ns))∧Below w.heap.size w w':=by
 obtain⟨A,c,rfl,hc,hl, -⟩:=h
 obtain⟨n,hnn⟩: ∃n,n=ns.length:=⟨_,rfl⟩
 obtain⟨R,hR⟩: ∃R,R=zdc ns:=⟨_,rfl⟩
 rw[←hR]
 rw[←hnn]at hc hn⊢
 have HN:=Lib.hid hnn
 have HL:=Lib.hid hl
 have HR:=Lib.hid hR
 clear hnn hl hR
 by_cases hg:16<n
 ·have hgI:(16:Int)<(n:Int):=by omega
  have HT:Hid (R=false):=Lib.hid (by rw[HR.out];unfold zdc;rw[←HN.out,decide_eq_false (by omega),Bool.false_and])
  clear hg
  go_enter Tryz.func61,Tryz.ntmps61
  go_wp2
  go_ret
  exact⟨zax HT.out.symm,Below.refl _ _⟩
 ·have hgI: ¬(16:Int)<(n:Int):=by omega
  have HR2:Hid (R=chkG none ns):=Lib.hid (by rw[HR.out];unfold zdc;rw[←HN.out,decide_eq_true (by omega),Bool.true_and])
  have hg2:n≤16:=by omega
  clear hg HR
  go_enter Tryz.func61,Tryz.ntmps61
  go_wp2
  go_loopw[3] (fun i wr=> ∃k:Nat,k≤n∧i= .int .i64 (k:Int)∧R=chkG (zgc ns k) (ns.drop k)∧Below w.heap.size w wr) (fun i _=>n-(intOf i).toNat)
  case atStart=>exact⟨0,Nat.zero_le _,rfl,HR2.out,Below.refl _ _⟩
  case round=>
   clear HR2
   obtain⟨k,hk,rfl,hrun,hbel⟩:=hrel
   have HRUN:=Lib.hid hrun
   have HBE:=Lib.hid hbel
   clear hrun hbel
   by_cases hlt:k<n
   ·have hkl:k<ns.length:=by rw[←HN.out];exact hlt
    obtain⟨b,o,rfl,hbl,hcell0⟩:=HL.out.at hkl
    have y0:=(HBE.out.cell (p:=⟨b,o+k,none⟩) hbl).trans hcell0
    have hi0:(0:Int)≤(k:Int):=by omega
    have hi1:(k:Int)<(n:Int):=by omega
    have HNM:=Lib.hid (fun W=>zgr ns[k] W)
    by_cases hk0:k=0
    ·have HST:Hid (chkG (zgc ns k) (ns.drop k)=(zbh (strL ns[k])&&chkG (zgc ns (k+1)) (ns.drop (k+1)))):=Lib.hid (by subst hk0;exact chk_at0 hkl)
     obtain⟨x,hx⟩: ∃x,x=ns[k]:=⟨_,rfl⟩
     rw[←hx]at y0 HNM HST
     have hgz: ¬(0:Int)<(k:Int):=by omega
     have dgz:decide ((k:Int)>0)=false:=decide_eq_false hgz
     clear hx hkl hcell0 hbl
     cases hnb:zbh (strL x)with
     |false=>
      rw[hnb]at HNM HST
      have HT:Hid (R=false):=Lib.hid (by rw[HRUN.out,HST.out,Bool.false_and])
      clear hnb hk0
      go_wp2
      refine wp_region_held_drew (S:=fun w'=>w'.cell? ⟨b,o+k,none⟩=some (.string x)) (by kernel_rfl) (by exact y0) (fun hHeld=> ?_)
      refine wpAnyH_take (i:=0) (v:= ?v1) rfl (by kernel_rfl) (by kernel_rfl) (by kernel_rfl) (fun _ _ _ h=>h) (Or.inl ⟨by rfl,?hy1⟩) (by assumption) ?rest1
      case hy1=>(intro w hSw;(try dsimp only at hSw);first|(go_simp;done)|(go_simp;with_reducible rfl))
      try simp only[rgS]
      refine wpAnyH_take (i:=1) (v:= ?v2) rfl (by kernel_rfl) (by kernel_rfl) (by kernel_rfl) (fun _ _ _ h=>h) (Or.inl ⟨by rfl,?hy2⟩) (by assumption) ?rest2
      case hy2=>(intro w hSw;(try dsimp only at hSw);first|(go_simp;done)|(go_simp;with_reducible rfl))
      try simp only[rgS]
      refine wpAnyH_take (i:=2) (v:= ?v3) rfl (by kernel_rfl) (by kernel_rfl) (by kernel_rfl) (fun _ _ _ h=>h) (Or.inl ⟨by rfl,?hy3⟩) (by assumption) ?rest3
      case hy3=>(intro w hSw;(try dsimp only at hSw);first|(go_simp;done)|(go_simp;with_reducible rfl))
      try simp only[rgS]
      refine wpAnyH_take (i:=3) (v:= ?v4) rfl (by kernel_rfl) (by kernel_rfl) (by kernel_rfl) (fun _ _ _ h=>h) (Or.inl ⟨by rfl,?hy4⟩) (by assumption) ?rest4
      case hy4=>(intro w hSw;(try dsimp only at hSw);first|(go_simp;done)|(go_simp;with_reducible rfl))
      try simp only[rgS]
      refine wpAnyH_ready (rs:=[4]) (by kernel_rfl) (by simp) ?_
      refine AllReadyH.cons rfl (fun K hK=> ?_) AllReadyH.nil
      go_simp
      go_at_call 60
      refine(HNM.out _).mono ?_
      rintro e w4 ⟨rfl,rfl⟩
      (try go_wp2_with fail)
      refine hK.out _ _ (by exact y0) (fun hHeld2=> ?_)
      clear hK K hHeld
      try simp only[rgS]
      refine wpAnyH_take (i:=5) (v:= ?v5) rfl (by kernel_rfl) (by kernel_rfl) (by kernel_rfl) (fun _ _ _ h=>h) (Or.inl ⟨by rfl,?hy5⟩) (by assumption) ?rest5
      case hy5=>(intro w hSw;(try dsimp only at hSw);first|(go_simp;done)|(go_simp;with_reducible rfl))
      try simp only[rgS]
      refine wpAnyH_take (i:=6) (v:= ?v6) rfl (by kernel_rfl) (by kernel_rfl) (by kernel_rfl) (fun _ _ _ h=>h) (Or.inl ⟨by rfl,?hy6⟩) (by assumption) ?rest6
      case hy6=>(intro w hSw;(try dsimp only at hSw);first|(go_simp;done)|(go_simp;with_reducible rfl))
      try simp only[rgS]
      refine wpAnyH_take (i:=7) (v:=undef) rfl (by kernel_rfl) (by kernel_rfl) (by kernel_rfl) (fun _ _ _ h=>h) (Or.inr ⟨by rfl,rfl⟩) (by assumption) ?rest7
      try simp only[rgS]
      refine wpAnyH_take (i:=8) (v:=undef) rfl (by kernel_rfl) (by kernel_rfl) (by kernel_rfl) (fun _ _ _ h=>h) (Or.inr ⟨by rfl,rfl⟩) (by assumption) ?rest8
      try simp only[rgS]
      refine wpAnyH_take (i:=9) (v:=undef) rfl (by kernel_rfl) (by kernel_rfl) (by kernel_rfl) (fun _ _ _ h=>h) (Or.inr ⟨by rfl,rfl⟩) (by assumption) ?rest9
      try simp only[rgS]
      refine wpAnyH_take (i:=10) (v:=undef) rfl (by kernel_rfl) (by kernel_rfl) (by kernel_rfl) (fun _ _ _ h=>h) (Or.inr ⟨by rfl,rfl⟩) (by assumption) ?rest10
      try simp only[rgS]
      refine wpAnyH_take (i:=11) (v:=undef) rfl (by kernel_rfl) (by kernel_rfl) (by kernel_rfl) (fun _ _ _ h=>h) (Or.inr ⟨by rfl,rfl⟩) (by assumption) ?rest11
      try simp only[rgS]
      refine wpAnyH_take (i:=12) (v:=undef) rfl (by kernel_rfl) (by kernel_rfl) (by kernel_rfl) (fun _ _ _ h=>h) (Or.inr ⟨by rfl,rfl⟩) (by assumption) ?rest12
      try simp only[rgS]
      refine wpAnyH_take (i:=13) (v:=undef) rfl (by kernel_rfl) (by kernel_rfl) (by kernel_rfl) (fun _ _ _ h=>h) (Or.inr ⟨by rfl,rfl⟩) (by assumption) ?rest13
      try simp only[rgS]
      refine wpAnyH_take (i:=14) (v:=undef) rfl (by kernel_rfl) (by kernel_rfl) (by kernel_rfl) (fun _ _ _ h=>h) (Or.inr ⟨by rfl,rfl⟩) (by assumption) ?rest14
      try simp only[rgS]
      refine wpAnyH_take (i:=15) (v:=undef) rfl (by kernel_rfl) (by kernel_rfl) (by kernel_rfl) (fun _ _ _ h=>h) (Or.inr ⟨by rfl,rfl⟩) (by assumption) ?rest15
      try simp only[rgS]
      refine wpAnyH_take (i:=16) (v:=undef) rfl (by kernel_rfl) (by kernel_rfl) (by kernel_rfl) (fun _ _ _ h=>h) (Or.inr ⟨by rfl,rfl⟩) (by assumption) ?rest16
      try simp only[rgS]
      refine wpAnyH_take (i:=17) (v:=undef) rfl (by kernel_rfl) (by kernel_rfl) (by kernel_rfl) (fun _ _ _ h=>h) (Or.inr ⟨by rfl,rfl⟩) (by assumption) ?rest17
      try simp only[rgS]
      refine wpAnyH_take (i:=18) (v:=undef) rfl (by kernel_rfl) (by kernel_rfl) (by kernel_rfl) (fun _ _ _ h=>h) (Or.inr ⟨by rfl,rfl⟩) (by assumption) ?rest18
      try simp only[rgS]
      refine wpAnyH_take (i:=19) (v:=undef) rfl (by kernel_rfl) (by kernel_rfl) (by kernel_rfl) (fun _ _ _ h=>h) (Or.inr ⟨by rfl,rfl⟩) (by assumption) ?rest19
      try simp only[rgS]
      refine wpAnyH_take (i:=20) (v:=undef) rfl (by kernel_rfl) (by kernel_rfl) (by kernel_rfl) (fun _ _ _ h=>h) (Or.inr ⟨by rfl,rfl⟩) (by assumption) ?rest20
      try simp only[rgS]
      refine wpAnyH_take (i:=21) (v:= ?v21) rfl (by kernel_rfl) (by kernel_rfl) (by kernel_rfl) (fun _ _ _ h=>h) (Or.inl ⟨by rfl,?hy21⟩) (by assumption) ?rest21
      case hy21=>(intro w hSw;(try dsimp only at hSw);first|(go_simp;done)|(go_simp;with_reducible rfl))
      try simp only[rgS]
      refine wpAnyH_done (by kernel_rfl) ?_ _
      clear hHeld2
      go_wp2
      go_ret
      exact⟨zax HT.out.symm,HBE.out.drew⟩
     |true=>
      rw[hnb]at HNM HST
      have HT:Hid (R=chkG (zgc ns (k+1)) (ns.drop (k+1))):=Lib.hid (by rw[HRUN.out,HST.out,Bool.true_and])
      clear hnb hk0
      go_wp2
      refine wp_region_held_drew (S:=fun w'=>w'.cell? ⟨b,o+k,none⟩=some (.string x)) (by kernel_rfl) (by exact y0) (fun hHeld=> ?_)
      refine wpAnyH_take (i:=0) (v:= ?v22) rfl (by kernel_rfl) (by kernel_rfl) (by kernel_rfl) (fun _ _ _ h=>h) (Or.inl ⟨by rfl,?hy22⟩) (by assumption) ?rest22
      case hy22=>(intro w hSw;(try dsimp only at hSw);first|(go_simp;done)|(go_simp;with_reducible rfl))
      try simp only[rgS]
      refine wpAnyH_take (i:=1) (v:= ?v23) rfl (by kernel_rfl) (by kernel_rfl) (by kernel_rfl) (fun _ _ _ h=>h) (Or.inl ⟨by rfl,?hy23⟩) (by assumption) ?rest23
      case hy23=>(intro w hSw;(try dsimp only at hSw);first|(go_simp;done)|(go_simp;with_reducible rfl))
      try simp only[rgS]
      refine wpAnyH_take (i:=2) (v:= ?v24) rfl (by kernel_rfl) (by kernel_rfl) (by kernel_rfl) (fun _ _ _ h=>h) (Or.inl ⟨by rfl,?hy24⟩) (by assumption) ?rest24
      case hy24=>(intro w hSw;(try dsimp only at hSw);first|(go_simp;done)|(go_simp;with_reducible rfl))
      try simp only[rgS]
      refine wpAnyH_take (i:=3) (v:= ?v25) rfl (by kernel_rfl) (by kernel_rfl) (by kernel_rfl) (fun _ _ _ h=>h) (Or.inl ⟨by rfl,?hy25⟩) (by assumption) ?rest25
      case hy25=>(intro w hSw;(try dsimp only at hSw);first|(go_simp;done)|(go_simp;with_reducible rfl))
      try simp only[rgS]
      refine wpAnyH_ready (rs:=[4]) (by kernel_rfl) (by simp) ?_
      refine AllReadyH.cons rfl (fun K hK=> ?_) AllReadyH.nil
      go_simp
      go_at_call 60
      refine(HNM.out _).mono ?_
      rintro e w4 ⟨rfl,rfl⟩
      (try go_wp2_with fail)
      refine hK.out _ _ (by exact y0) (fun hHeld2=> ?_)
      clear hK K hHeld
      try simp only[rgS]
      refine wpAnyH_take (i:=5) (v:= ?v26) rfl (by kernel_rfl) (by kernel_rfl) (by kernel_rfl) (fun _ _ _ h=>h) (Or.inl ⟨by rfl,?hy26⟩) (by assumption) ?rest26
      case hy26=>(intro w hSw;(try dsimp only at hSw);first|(go_simp;done)|(go_simp;with_reducible rfl))
      try simp only[rgS]
      refine wpAnyH_take (i:=6) (v:= ?v27) rfl (by kernel_rfl) (by kernel_rfl) (by kernel_rfl) (fun _ _ _ h=>h) (Or.inl ⟨by rfl,?hy27⟩) (by assumption) ?rest27
      case hy27=>(intro w hSw;(try dsimp only at hSw);first|(go_simp;done)|(go_simp;with_reducible rfl))
      try simp only[rgS]
      refine wpAnyH_take (i:=7) (v:= ?v28) rfl (by kernel_rfl) (by kernel_rfl) (by kernel_rfl) (fun _ _ _ h=>h) (Or.inl ⟨by rfl,?hy28⟩) (by assumption) ?rest28
      case hy28=>(intro w hSw;(try dsimp only at hSw);first|(go_simp;done)|(go_simp;with_reducible rfl))
      try simp only[rgS]
      refine wpAnyH_take (i:=8) (v:= .bool false) rfl (by kernel_rfl) (by kernel_rfl) (by kernel_rfl) (fun _ _ _ h=>h) (Or.inl ⟨by rfl,?hy29⟩) (by assumption) ?rest29
      case hy29=>(intro w hSw;(try dsimp only at hSw);go_simp;first|done|exact congrArg Value.bool dgz|(simp;omega)|simp_all)
      try simp only[rgS]
      refine wpAnyH_take (i:=9) (v:= ?v30) rfl (by kernel_rfl) (by kernel_rfl) (by kernel_rfl) (fun _ _ _ h=>h) (Or.inl ⟨by rfl,?hy30⟩) (by assumption) ?rest30
      case hy30=>(intro w hSw;(try dsimp only at hSw);first|(go_simp;done)|(go_simp;with_reducible rfl))
      try simp only[rgS]
      refine wpAnyH_take (i:=10) (v:=undef) rfl (by kernel_rfl) (by kernel_rfl) (by kernel_rfl) (fun _ _ _ h=>h) (Or.inr ⟨by rfl,rfl⟩) (by assumption) ?rest31
      try simp only[rgS]
      refine wpAnyH_take (i:=11) (v:=undef) rfl (by kernel_rfl) (by kernel_rfl) (by kernel_rfl) (fun _ _ _ h=>h) (Or.inr ⟨by rfl,rfl⟩) (by assumption) ?rest32
      try simp only[rgS]
      refine wpAnyH_take (i:=12) (v:=undef) rfl (by kernel_rfl) (by kernel_rfl) (by kernel_rfl) (fun _ _ _ h=>h) (Or.inr ⟨by rfl,rfl⟩) (by assumption) ?rest33
      try simp only[rgS]
      refine wpAnyH_take (i:=13) (v:=undef) rfl (by kernel_rfl) (by kernel_rfl) (by kernel_rfl) (fun _ _ _ h=>h) (Or.inr ⟨by rfl,rfl⟩) (by assumption) ?rest34
      try simp only[rgS]
      refine wpAnyH_take (i:=14) (v:=undef) rfl (by kernel_rfl) (by kernel_rfl) (by kernel_rfl) (fun _ _ _ h=>h) (Or.inr ⟨by rfl,rfl⟩) (by assumption) ?rest35
      try simp only[rgS]
      refine wpAnyH_take (i:=15) (v:=undef) rfl (by kernel_rfl) (by kernel_rfl) (by kernel_rfl) (fun _ _ _ h=>h) (Or.inr ⟨by rfl,rfl⟩) (by assumption) ?rest36
      try simp only[rgS]
      refine wpAnyH_take (i:=16) (v:=undef) rfl (by kernel_rfl) (by kernel_rfl) (by kernel_rfl) (fun _ _ _ h=>h) (Or.inr ⟨by rfl,rfl⟩) (by assumption) ?rest37
      try simp only[rgS]
      refine wpAnyH_take (i:=17) (v:=undef) rfl (by kernel_rfl) (by kernel_rfl) (by kernel_rfl) (fun _ _ _ h=>h) (Or.inr ⟨by rfl,rfl⟩) (by assumption) ?rest38
      try simp only[rgS]
      refine wpAnyH_take (i:=18) (v:=undef) rfl (by kernel_rfl) (by kernel_rfl) (by kernel_rfl) (fun _ _ _ h=>h) (Or.inr ⟨by rfl,rfl⟩) (by assumption) ?rest39
      try simp only[rgS]
      refine wpAnyH_take (i:=19) (v:=undef) rfl (by kernel_rfl) (by kernel_rfl) (by kernel_rfl) (fun _ _ _ h=>h) (Or.inr ⟨by rfl,rfl⟩) (by assumption) ?rest40
      try simp only[rgS]
      refine wpAnyH_take (i:=20) (v:= ?v41) rfl (by kernel_rfl) (by kernel_rfl) (by kernel_rfl) (fun _ _ _ h=>h) (Or.inl ⟨by rfl,?hy41⟩) (by assumption) ?rest41
      case hy41=>(intro w hSw;(try dsimp only at hSw);first|(go_simp;done)|(go_simp;with_reducible rfl))
      try simp only[rgS]
      refine wpAnyH_take (i:=21) (v:= ?v42) rfl (by kernel_rfl) (by kernel_rfl) (by kernel_rfl) (fun _ _ _ h=>h) (Or.inl ⟨by rfl,?hy42⟩) (by assumption) ?rest42
      case hy42=>(intro w hSw;(try dsimp only at hSw);first|(go_simp;done)|(go_simp;with_reducible rfl))
      try simp only[rgS]
      refine wpAnyH_done (by kernel_rfl) ?_ _
      clear hHeld2
      go_wp2
      go_roundw
      case rel=>exact⟨k+1,by omega,by go_num,HT.out,HBE.out.drew⟩
      case measure=>simp[intOf];omega
    ·obtain⟨pp,hpp,hst⟩:=chk_some (l:=ns) (k:=k) (by omega) hkl
     have y2:wr.cell? ⟨b,o+(k-1),none⟩=some (.string pp):=by
      obtain⟨hp1,hp2⟩:=List.getElem?_eq_some_iff.1 hpp
      obtain⟨b',o',e,hb',hc'⟩:=HL.out.at hp1
      injection e with e;injection e with e1 e2
      subst e1;subst e2
      rw[hp2]at hc'
      exact(HBE.out.cell (p:=⟨b,o+(k-1),none⟩) hb').trans hc'
     have HST:=Lib.hid hst
     obtain⟨x,hx⟩: ∃x,x=ns[k]:=⟨_,rfl⟩
     rw[←hx]at y0 HNM HST
     have hgz:(0:Int)<(k:Int):=by omega
     have dgz:decide ((k:Int)>0)=true:=decide_eq_true hgz
     have wk:IntKind.i64.wrap ((k:Int)-1)=((k-1:Nat):Int):=by rw[IntKind.wrap_i64];omega
     have hk1:(0:Int)≤((k-1:Nat):Int):=by omega
     have hk2:((k-1:Nat):Int)<(n:Int):=by omega
     have hkm:k-1<n:=by omega
     clear hx hkl hcell0 hbl hst hpp
     cases hnb:zbh (strL x)with
     |false=>
      rw[hnb]at HNM HST
      have HT:Hid (R=false):=Lib.hid (by rw[HRUN.out,HST.out,Bool.false_and,Bool.false_and])
      clear hnb hk0
      go_wp2
      refine wp_region_held_drew (S:=fun w'=>w'.cell? ⟨b,o+k,none⟩=some (.string x)) (by kernel_rfl) (by exact y0) (fun hHeld=> ?_)
      refine wpAnyH_take (i:=0) (v:= ?v43) rfl (by kernel_rfl) (by kernel_rfl) (by kernel_rfl) (fun _ _ _ h=>h) (Or.inl ⟨by rfl,?hy43⟩) (by assumption) ?rest43
      case hy43=>(intro w hSw;(try dsimp only at hSw);first|(go_simp;done)|(go_simp;with_reducible rfl))
      try simp only[rgS]
      refine wpAnyH_take (i:=1) (v:= ?v44) rfl (by kernel_rfl) (by kernel_rfl) (by kernel_rfl) (fun _ _ _ h=>h) (Or.inl ⟨by rfl,?hy44⟩) (by assumption) ?rest44
      case hy44=>(intro w hSw;(try dsimp only at hSw);first|(go_simp;done)|(go_simp;with_reducible rfl))
      try simp only[rgS]
      refine wpAnyH_take (i:=2) (v:= ?v45) rfl (by kernel_rfl) (by kernel_rfl) (by kernel_rfl) (fun _ _ _ h=>h) (Or.inl ⟨by rfl,?hy45⟩) (by assumption) ?rest45
      case hy45=>(intro w hSw;(try dsimp only at hSw);first|(go_simp;done)|(go_simp;with_reducible rfl))
      try simp only[rgS]
      refine wpAnyH_take (i:=3) (v:= ?v46) rfl (by kernel_rfl) (by kernel_rfl) (by kernel_rfl) (fun _ _ _ h=>h) (Or.inl ⟨by rfl,?hy46⟩) (by assumption) ?rest46
      case hy46=>(intro w hSw;(try dsimp only at hSw);first|(go_simp;done)|(go_simp;with_reducible rfl))
      try simp only[rgS]
      refine wpAnyH_ready (rs:=[4]) (by kernel_rfl) (by simp) ?_
      refine AllReadyH.cons rfl (fun K hK=> ?_) AllReadyH.nil
      go_simp
      go_at_call 60
      refine(HNM.out _).mono ?_
      rintro e w4 ⟨rfl,rfl⟩
      (try go_wp2_with fail)
      refine hK.out _ _ (by exact y0) (fun hHeld2=> ?_)
      clear hK K hHeld
      try simp only[rgS]
      refine wpAnyH_take (i:=5) (v:= ?v47) rfl (by kernel_rfl) (by kernel_rfl) (by kernel_rfl) (fun _ _ _ h=>h) (Or.inl ⟨by rfl,?hy47⟩) (by assumption) ?rest47
      case hy47=>(intro w hSw;(try dsimp only at hSw);first|(go_simp;done)|(go_simp;with_reducible rfl))
      try simp only[rgS]
      refine wpAnyH_take (i:=6) (v:= ?v48) rfl (by kernel_rfl) (by kernel_rfl) (by kernel_rfl) (fun _ _ _ h=>h) (Or.inl ⟨by rfl,?hy48⟩) (by assumption) ?rest48
      case hy48=>(intro w hSw;(try dsimp only at hSw);first|(go_simp;done)|(go_simp;with_reducible rfl))
      try simp only[rgS]
      refine wpAnyH_take (i:=7) (v:=undef) rfl (by kernel_rfl) (by kernel_rfl) (by kernel_rfl) (fun _ _ _ h=>h) (Or.inr ⟨by rfl,rfl⟩) (by assumption) ?rest49
      try simp only[rgS]
      refine wpAnyH_take (i:=8) (v:=undef) rfl (by kernel_rfl) (by kernel_rfl) (by kernel_rfl) (fun _ _ _ h=>h) (Or.inr ⟨by rfl,rfl⟩) (by assumption) ?rest50
      try simp only[rgS]
      refine wpAnyH_take (i:=9) (v:=undef) rfl (by kernel_rfl) (by kernel_rfl) (by kernel_rfl) (fun _ _ _ h=>h) (Or.inr ⟨by rfl,rfl⟩) (by assumption) ?rest51
      try simp only[rgS]
      refine wpAnyH_take (i:=10) (v:=undef) rfl (by kernel_rfl) (by kernel_rfl) (by kernel_rfl) (fun _ _ _ h=>h) (Or.inr ⟨by rfl,rfl⟩) (by assumption) ?rest52
      try simp only[rgS]
      refine wpAnyH_take (i:=11) (v:=undef) rfl (by kernel_rfl) (by kernel_rfl) (by kernel_rfl) (fun _ _ _ h=>h) (Or.inr ⟨by rfl,rfl⟩) (by assumption) ?rest53
      try simp only[rgS]
      refine wpAnyH_take (i:=12) (v:=undef) rfl (by kernel_rfl) (by kernel_rfl) (by kernel_rfl) (fun _ _ _ h=>h) (Or.inr ⟨by rfl,rfl⟩) (by assumption) ?rest54
      try simp only[rgS]
      refine wpAnyH_take (i:=13) (v:=undef) rfl (by kernel_rfl) (by kernel_rfl) (by kernel_rfl) (fun _ _ _ h=>h) (Or.inr ⟨by rfl,rfl⟩) (by assumption) ?rest55
      try simp only[rgS]
      refine wpAnyH_take (i:=14) (v:=undef) rfl (by kernel_rfl) (by kernel_rfl) (by kernel_rfl) (fun _ _ _ h=>h) (Or.inr ⟨by rfl,rfl⟩) (by assumption) ?rest56
      try simp only[rgS]
      refine wpAnyH_take (i:=15) (v:=undef) rfl (by kernel_rfl) (by kernel_rfl) (by kernel_rfl) (fun _ _ _ h=>h) (Or.inr ⟨by rfl,rfl⟩) (by assumption) ?rest57
      try simp only[rgS]
      refine wpAnyH_take (i:=16) (v:=undef) rfl (by kernel_rfl) (by kernel_rfl) (by kernel_rfl) (fun _ _ _ h=>h) (Or.inr ⟨by rfl,rfl⟩) (by assumption) ?rest58
      try simp only[rgS]
      refine wpAnyH_take (i:=17) (v:=undef) rfl (by kernel_rfl) (by kernel_rfl) (by kernel_rfl) (fun _ _ _ h=>h) (Or.inr ⟨by rfl,rfl⟩) (by assumption) ?rest59
      try simp only[rgS]
      refine wpAnyH_take (i:=18) (v:=undef) rfl (by kernel_rfl) (by kernel_rfl) (by kernel_rfl) (fun _ _ _ h=>h) (Or.inr ⟨by rfl,rfl⟩) (by assumption) ?rest60
      try simp only[rgS]
      refine wpAnyH_take (i:=19) (v:=undef) rfl (by kernel_rfl) (by kernel_rfl) (by kernel_rfl) (fun _ _ _ h=>h) (Or.inr ⟨by rfl,rfl⟩) (by assumption) ?rest61
      try simp only[rgS]
      refine wpAnyH_take (i:=20) (v:=undef) rfl (by kernel_rfl) (by kernel_rfl) (by kernel_rfl) (fun _ _ _ h=>h) (Or.inr ⟨by rfl,rfl⟩) (by assumption) ?rest62
      try simp only[rgS]
      refine wpAnyH_take (i:=21) (v:= ?v63) rfl (by kernel_rfl) (by kernel_rfl) (by kernel_rfl) (fun _ _ _ h=>h) (Or.inl ⟨by rfl,?hy63⟩) (by assumption) ?rest63
      case hy63=>(intro w hSw;(try dsimp only at hSw);first|(go_simp;done)|(go_simp;with_reducible rfl))
      try simp only[rgS]
      refine wpAnyH_done (by kernel_rfl) ?_ _
      clear hHeld2
      go_wp2
      go_ret
      exact⟨zax HT.out.symm,HBE.out.drew⟩
     |true=>
      rw[hnb]at HNM HST
      clear hnb hk0
      cases hl2:Op.bytesLess pp.toList x.toList with
      |true=>
       have HT:Hid (R=chkG (zgc ns (k+1)) (ns.drop (k+1))):=Lib.hid (by rw[HRUN.out,HST.out];unfold ltS;rw[hl2];rfl)
       obtain⟨lq1,lq2⟩:=leq_other hl2
       go_wp2
       refine wp_region_held_drew (S:=fun w'=>w'.cell? ⟨b,o+k,none⟩=some (.string x)∧w'.cell? ⟨b,o+(k-1),none⟩=some (.string pp)) (by kernel_rfl) (by exact⟨y0,y2⟩) (fun hHeld=> ?_)
       refine wpAnyH_take (i:=0) (v:= ?v64) rfl (by kernel_rfl) (by kernel_rfl) (by kernel_rfl) (fun _ _ _ h=>h) (Or.inl ⟨by rfl,?hy64⟩) (by assumption) ?rest64
       case hy64=>(intro w hSw;(try dsimp only at hSw);first|(go_simp;done)|(go_simp;with_reducible rfl))
       try simp only[rgS]
       refine wpAnyH_take (i:=1) (v:= ?v65) rfl (by kernel_rfl) (by kernel_rfl) (by kernel_rfl) (fun _ _ _ h=>h) (Or.inl ⟨by rfl,?hy65⟩) (by assumption) ?rest65
       case hy65=>(intro w hSw;(try dsimp only at hSw);first|(go_simp;done)|(go_simp;with_reducible rfl))
       try simp only[rgS]
       refine wpAnyH_take (i:=2) (v:= ?v66) rfl (by kernel_rfl) (by kernel_rfl) (by kernel_rfl) (fun _ _ _ h=>h) (Or.inl ⟨by rfl,?hy66⟩) (by assumption) ?rest66
       case hy66=>(intro w hSw;(try dsimp only at hSw);first|(go_simp;done)|(go_simp;with_reducible rfl))
       try simp only[rgS]
       refine wpAnyH_take (i:=3) (v:= ?v67) rfl (by kernel_rfl) (by kernel_rfl) (by kernel_rfl) (fun _ _ _ h=>h) (Or.inl ⟨by rfl,?hy67⟩) (by assumption) ?rest67
       case hy67=>(intro w hSw;(try dsimp only at hSw);first|(go_simp;done)|(go_simp;with_reducible rfl))
       try simp only[rgS]
       refine wpAnyH_ready (rs:=[4]) (by kernel_rfl) (by simp) ?_
       refine AllReadyH.cons rfl (fun K hK=> ?_) AllReadyH.nil
       go_simp
       go_at_call 60
       refine(HNM.out _).mono ?_
       rintro e w4 ⟨rfl,rfl⟩
       (try go_wp2_with fail)
       refine hK.out _ _ (by exact⟨y0,y2⟩) (fun hHeld2=> ?_)
       clear hK K hHeld
       try simp only[rgS]
       refine wpAnyH_take (i:=5) (v:= ?v68) rfl (by kernel_rfl) (by kernel_rfl) (by kernel_rfl) (fun _ _ _ h=>h) (Or.inl ⟨by rfl,?hy68⟩) (by assumption) ?rest68
       case hy68=>(intro w hSw;(try dsimp only at hSw);first|(go_simp;done)|(go_simp;with_reducible rfl))
       try simp only[rgS]
       refine wpAnyH_take (i:=6) (v:= ?v69) rfl (by kernel_rfl) (by kernel_rfl) (by kernel_rfl) (fun _ _ _ h=>h) (Or.inl ⟨by rfl,?hy69⟩) (by assumption) ?rest69
       case hy69=>(intro w hSw;(try dsimp only at hSw);first|(go_simp;done)|(go_simp;with_reducible rfl))
       try simp only[rgS]
       refine wpAnyH_take (i:=7) (v:= ?v70) rfl (by kernel_rfl) (by kernel_rfl) (by kernel_rfl) (fun _ _ _ h=>h) (Or.inl ⟨by rfl,?hy70⟩) (by assumption) ?rest70
       case hy70=>(intro w hSw;(try dsimp only at hSw);first|(go_simp;done)|(go_simp;with_reducible rfl))
       try simp only[rgS]
       refine wpAnyH_take (i:=8) (v:= .bool true) rfl (by kernel_rfl) (by kernel_rfl) (by kernel_rfl) (fun _ _ _ h=>h) (Or.inl ⟨by rfl,?hy71⟩) (by assumption) ?rest71
       case hy71=>(intro w hSw;(try dsimp only at hSw);go_simp;first|done|exact congrArg Value.bool dgz|(simp;omega)|simp_all)
       try simp only[rgS]
       refine wpAnyH_take (i:=9) (v:= ?v72) rfl (by kernel_rfl) (by kernel_rfl) (by kernel_rfl) (fun _ _ _ h=>h) (Or.inl ⟨by rfl,?hy72⟩) (by assumption) ?rest72
       case hy72=>(intro w hSw;(try dsimp only at hSw);first|(go_simp;done)|(go_simp;with_reducible rfl))
       try simp only[rgS]
       refine wpAnyH_take (i:=10) (v:= ?v73) rfl (by kernel_rfl) (by kernel_rfl) (by kernel_rfl) (fun _ _ _ h=>h) (Or.inl ⟨by rfl,?hy73⟩) (by assumption) ?rest73
       case hy73=>(intro w hSw;(try dsimp only at hSw);first|(go_simp;done)|(go_simp;with_reducible rfl))
       try simp only[rgS]
       refine wpAnyH_take (i:=11) (v:= ?v74) rfl (by kernel_rfl) (by kernel_rfl) (by kernel_rfl) (fun _ _ _ h=>h) (Or.inl ⟨by rfl,?hy74⟩) (by assumption) ?rest74
       case hy74=>(intro w hSw;(try dsimp only at hSw);first|(go_simp;done)|(go_simp;with_reducible rfl))
       try simp only[rgS]
       refine wpAnyH_take (i:=12) (v:= ?v75) rfl (by kernel_rfl) (by kernel_rfl) (by kernel_rfl) (fun _ _ _ h=>h) (Or.inl ⟨by rfl,?hy75⟩) (by assumption) ?rest75
       case hy75=>(intro w hSw;(try dsimp only at hSw);first|(go_simp;done)|(go_simp;with_reducible rfl))
       try simp only[rgS]
       refine wpAnyH_take (i:=13) (v:= ?v76) rfl (by kernel_rfl) (by kernel_rfl) (by kernel_rfl) (fun _ _ _ h=>h) (Or.inl ⟨by rfl,?hy76⟩) (by assumption) ?rest76
       case hy76=>(intro w hSw;(try dsimp only at hSw);first|(go_simp;done)|(go_simp;with_reducible rfl))
       try simp only[rgS]
       refine wpAnyH_take (i:=14) (v:= ?v77) rfl (by kernel_rfl) (by kernel_rfl) (by kernel_rfl) (fun _ _ _ h=>h) (Or.inl ⟨by rfl,?hy77⟩) (by assumption) ?rest77
       case hy77=>(intro w hSw;(try dsimp only at hSw);first|(go_simp;done)|(go_simp;with_reducible rfl))
       try simp only[rgS]
       refine wpAnyH_take (i:=15) (v:= ?v78) rfl (by kernel_rfl) (by kernel_rfl) (by kernel_rfl) (fun _ _ _ h=>h) (Or.inl ⟨by rfl,?hy78⟩) (by assumption) ?rest78
       case hy78=>(intro w hSw;(try dsimp only at hSw);first|(go_simp;done)|(go_simp;with_reducible rfl))
       try simp only[rgS]
       refine wpAnyH_take (i:=16) (v:= ?v79) rfl (by kernel_rfl) (by kernel_rfl) (by kernel_rfl) (fun _ _ _ h=>h) (Or.inl ⟨by rfl,?hy79⟩) (by assumption) ?rest79
       case hy79=>(intro w hSw;(try dsimp only at hSw);first|(go_simp;done)|(go_simp;with_reducible rfl))
       try simp only[rgS]
       refine wpAnyH_take (i:=17) (v:= ?v80) rfl (by kernel_rfl) (by kernel_rfl) (by kernel_rfl) (fun _ _ _ h=>h) (Or.inl ⟨by rfl,?hy80⟩) (by assumption) ?rest80
       case hy80=>(intro w hSw;(try dsimp only at hSw);first|(go_simp;done)|(go_simp;with_reducible rfl))
       try simp only[rgS]
       refine wpAnyH_take (i:=18) (v:= ?v81) rfl (by kernel_rfl) (by kernel_rfl) (by kernel_rfl) (fun _ _ _ h=>h) (Or.inl ⟨by rfl,?hy81⟩) (by assumption) ?rest81
       case hy81=>(intro w hSw;(try dsimp only at hSw);first|(go_simp;done)|(go_simp;with_reducible rfl))
       try simp only[rgS]
       refine wpAnyH_take (i:=19) (v:= ?v82) rfl (by kernel_rfl) (by kernel_rfl) (by kernel_rfl) (fun _ _ _ h=>h) (Or.inl ⟨by rfl,?hy82⟩) (by assumption) ?rest82
       case hy82=>(intro w hSw;(try dsimp only at hSw);first|(go_simp;done)|(go_simp;with_reducible rfl))
       try simp only[rgS]
       refine wpAnyH_take (i:=20) (v:= ?v83) rfl (by kernel_rfl) (by kernel_rfl) (by kernel_rfl) (fun _ _ _ h=>h) (Or.inl ⟨by rfl,?hy83⟩) (by assumption) ?rest83
       case hy83=>(intro w hSw;(try dsimp only at hSw);first|(go_simp;done)|(go_simp;with_reducible rfl))
       try simp only[rgS]
       refine wpAnyH_take (i:=21) (v:= ?v84) rfl (by kernel_rfl) (by kernel_rfl) (by kernel_rfl) (fun _ _ _ h=>h) (Or.inl ⟨by rfl,?hy84⟩) (by assumption) ?rest84
       case hy84=>(intro w hSw;(try dsimp only at hSw);first|(go_simp;done)|(go_simp;with_reducible rfl))
       try simp only[rgS]
       refine wpAnyH_done (by kernel_rfl) ?_ _
       clear hHeld2
       go_wp2
       go_roundw
       case rel=>exact⟨k+1,by omega,by go_num,HT.out,HBE.out.drew⟩
       case measure=>simp[intOf];omega
      |false=>
       have HT:Hid (R=false):=Lib.hid (by rw[HRUN.out,HST.out];unfold ltS;rw[hl2];rfl)
       rcases leq_not hl2 with lq1|⟨lq1,lq2⟩
       ·skip
        go_wp2
        refine wp_region_held_drew (S:=fun w'=>w'.cell? ⟨b,o+k,none⟩=some (.string x)∧w'.cell? ⟨b,o+(k-1),none⟩=some (.string pp)) (by kernel_rfl) (by exact⟨y0,y2⟩) (fun hHeld=> ?_)
        refine wpAnyH_take (i:=0) (v:= ?v85) rfl (by kernel_rfl) (by kernel_rfl) (by kernel_rfl) (fun _ _ _ h=>h) (Or.inl ⟨by rfl,?hy85⟩) (by assumption) ?rest85
        case hy85=>(intro w hSw;(try dsimp only at hSw);first|(go_simp;done)|(go_simp;with_reducible rfl))
        try simp only[rgS]
        refine wpAnyH_take (i:=1) (v:= ?v86) rfl (by kernel_rfl) (by kernel_rfl) (by kernel_rfl) (fun _ _ _ h=>h) (Or.inl ⟨by rfl,?hy86⟩) (by assumption) ?rest86
        case hy86=>(intro w hSw;(try dsimp only at hSw);first|(go_simp;done)|(go_simp;with_reducible rfl))
        try simp only[rgS]
        refine wpAnyH_take (i:=2) (v:= ?v87) rfl (by kernel_rfl) (by kernel_rfl) (by kernel_rfl) (fun _ _ _ h=>h) (Or.inl ⟨by rfl,?hy87⟩) (by assumption) ?rest87
        case hy87=>(intro w hSw;(try dsimp only at hSw);first|(go_simp;done)|(go_simp;with_reducible rfl))
        try simp only[rgS]
        refine wpAnyH_take (i:=3) (v:= ?v88) rfl (by kernel_rfl) (by kernel_rfl) (by kernel_rfl) (fun _ _ _ h=>h) (Or.inl ⟨by rfl,?hy88⟩) (by assumption) ?rest88
        case hy88=>(intro w hSw;(try dsimp only at hSw);first|(go_simp;done)|(go_simp;with_reducible rfl))
        try simp only[rgS]
        refine wpAnyH_ready (rs:=[4]) (by kernel_rfl) (by simp) ?_
        refine AllReadyH.cons rfl (fun K hK=> ?_) AllReadyH.nil
        go_simp
        go_at_call 60
        refine(HNM.out _).mono ?_
        rintro e w4 ⟨rfl,rfl⟩
        (try go_wp2_with fail)
        refine hK.out _ _ (by exact⟨y0,y2⟩) (fun hHeld2=> ?_)
        clear hK K hHeld
        try simp only[rgS]
        refine wpAnyH_take (i:=5) (v:= ?v89) rfl (by kernel_rfl) (by kernel_rfl) (by kernel_rfl) (fun _ _ _ h=>h) (Or.inl ⟨by rfl,?hy89⟩) (by assumption) ?rest89
        case hy89=>(intro w hSw;(try dsimp only at hSw);first|(go_simp;done)|(go_simp;with_reducible rfl))
        try simp only[rgS]
        refine wpAnyH_take (i:=6) (v:= ?v90) rfl (by kernel_rfl) (by kernel_rfl) (by kernel_rfl) (fun _ _ _ h=>h) (Or.inl ⟨by rfl,?hy90⟩) (by assumption) ?rest90
        case hy90=>(intro w hSw;(try dsimp only at hSw);first|(go_simp;done)|(go_simp;with_reducible rfl))
        try simp only[rgS]
        refine wpAnyH_take (i:=7) (v:= ?v91) rfl (by kernel_rfl) (by kernel_rfl) (by kernel_rfl) (fun _ _ _ h=>h) (Or.inl ⟨by rfl,?hy91⟩) (by assumption) ?rest91
        case hy91=>(intro w hSw;(try dsimp only at hSw);first|(go_simp;done)|(go_simp;with_reducible rfl))
        try simp only[rgS]
        refine wpAnyH_take (i:=8) (v:= .bool true) rfl (by kernel_rfl) (by kernel_rfl) (by kernel_rfl) (fun _ _ _ h=>h) (Or.inl ⟨by rfl,?hy92⟩) (by assumption) ?rest92
        case hy92=>(intro w hSw;(try dsimp only at hSw);go_simp;first|done|exact congrArg Value.bool dgz|(simp;omega)|simp_all)
        try simp only[rgS]
        refine wpAnyH_take (i:=9) (v:= ?v93) rfl (by kernel_rfl) (by kernel_rfl) (by kernel_rfl) (fun _ _ _ h=>h) (Or.inl ⟨by rfl,?hy93⟩) (by assumption) ?rest93
        case hy93=>(intro w hSw;(try dsimp only at hSw);first|(go_simp;done)|(go_simp;with_reducible rfl))
        try simp only[rgS]
        refine wpAnyH_take (i:=10) (v:= ?v94) rfl (by kernel_rfl) (by kernel_rfl) (by kernel_rfl) (fun _ _ _ h=>h) (Or.inl ⟨by rfl,?hy94⟩) (by assumption) ?rest94
        case hy94=>(intro w hSw;(try dsimp only at hSw);first|(go_simp;done)|(go_simp;with_reducible rfl))
        try simp only[rgS]
        refine wpAnyH_take (i:=11) (v:= ?v95) rfl (by kernel_rfl) (by kernel_rfl) (by kernel_rfl) (fun _ _ _ h=>h) (Or.inl ⟨by rfl,?hy95⟩) (by assumption) ?rest95
        case hy95=>(intro w hSw;(try dsimp only at hSw);first|(go_simp;done)|(go_simp;with_reducible rfl))
        try simp only[rgS]
        refine wpAnyH_take (i:=12) (v:= ?v96) rfl (by kernel_rfl) (by kernel_rfl) (by kernel_rfl) (fun _ _ _ h=>h) (Or.inl ⟨by rfl,?hy96⟩) (by assumption) ?rest96
        case hy96=>(intro w hSw;(try dsimp only at hSw);first|(go_simp;done)|(go_simp;with_reducible rfl))
        try simp only[rgS]
        refine wpAnyH_take (i:=13) (v:= ?v97) rfl (by kernel_rfl) (by kernel_rfl) (by kernel_rfl) (fun _ _ _ h=>h) (Or.inl ⟨by rfl,?hy97⟩) (by assumption) ?rest97
        case hy97=>(intro w hSw;(try dsimp only at hSw);first|(go_simp;done)|(go_simp;with_reducible rfl))
        try simp only[rgS]
        refine wpAnyH_take (i:=14) (v:= ?v98) rfl (by kernel_rfl) (by kernel_rfl) (by kernel_rfl) (fun _ _ _ h=>h) (Or.inl ⟨by rfl,?hy98⟩) (by assumption) ?rest98
        case hy98=>(intro w hSw;(try dsimp only at hSw);first|(go_simp;done)|(go_simp;with_reducible rfl))
        try simp only[rgS]
        refine wpAnyH_take (i:=15) (v:= ?v99) rfl (by kernel_rfl) (by kernel_rfl) (by kernel_rfl) (fun _ _ _ h=>h) (Or.inl ⟨by rfl,?hy99⟩) (by assumption) ?rest99
        case hy99=>(intro w hSw;(try dsimp only at hSw);first|(go_simp;done)|(go_simp;with_reducible rfl))
        try simp only[rgS]
        refine wpAnyH_take (i:=16) (v:= ?v100) rfl (by kernel_rfl) (by kernel_rfl) (by kernel_rfl) (fun _ _ _ h=>h) (Or.inl ⟨by rfl,?hy100⟩) (by assumption) ?rest100
        case hy100=>(intro w hSw;(try dsimp only at hSw);first|(go_simp;done)|(go_simp;with_reducible rfl))
        try simp only[rgS]
        refine wpAnyH_take (i:=17) (v:= ?v101) rfl (by kernel_rfl) (by kernel_rfl) (by kernel_rfl) (fun _ _ _ h=>h) (Or.inl ⟨by rfl,?hy101⟩) (by assumption) ?rest101
        case hy101=>(intro w hSw;(try dsimp only at hSw);first|(go_simp;done)|(go_simp;with_reducible rfl))
        try simp only[rgS]
        refine wpAnyH_take (i:=18) (v:= ?v102) rfl (by kernel_rfl) (by kernel_rfl) (by kernel_rfl) (fun _ _ _ h=>h) (Or.inl ⟨by rfl,?hy102⟩) (by assumption) ?rest102
        case hy102=>(intro w hSw;(try dsimp only at hSw);first|(go_simp;done)|(go_simp;with_reducible rfl))
        try simp only[rgS]
        refine wpAnyH_take (i:=19) (v:= ?v103) rfl (by kernel_rfl) (by kernel_rfl) (by kernel_rfl) (fun _ _ _ h=>h) (Or.inl ⟨by rfl,?hy103⟩) (by assumption) ?rest103
        case hy103=>(intro w hSw;(try dsimp only at hSw);first|(go_simp;done)|(go_simp;with_reducible rfl))
        try simp only[rgS]
        refine wpAnyH_take (i:=20) (v:= ?v104) rfl (by kernel_rfl) (by kernel_rfl) (by kernel_rfl) (fun _ _ _ h=>h) (Or.inl ⟨by rfl,?hy104⟩) (by assumption) ?rest104
        case hy104=>(intro w hSw;(try dsimp only at hSw);first|(go_simp;done)|(go_simp;with_reducible rfl))
        try simp only[rgS]
        refine wpAnyH_take (i:=21) (v:= ?v105) rfl (by kernel_rfl) (by kernel_rfl) (by kernel_rfl) (fun _ _ _ h=>h) (Or.inl ⟨by rfl,?hy105⟩) (by assumption) ?rest105
        case hy105=>(intro w hSw;(try dsimp only at hSw);first|(go_simp;done)|(go_simp;with_reducible rfl))
        try simp only[rgS]
        refine wpAnyH_done (by kernel_rfl) ?_ _
        clear hHeld2
        go_wp2
        go_ret
        exact⟨zax HT.out.symm,HBE.out.drew⟩
       ·skip
        go_wp2
        refine wp_region_held_drew (S:=fun w'=>w'.cell? ⟨b,o+k,none⟩=some (.string x)∧w'.cell? ⟨b,o+(k-1),none⟩=some (.string pp)) (by kernel_rfl) (by exact⟨y0,y2⟩) (fun hHeld=> ?_)
        refine wpAnyH_take (i:=0) (v:= ?v106) rfl (by kernel_rfl) (by kernel_rfl) (by kernel_rfl) (fun _ _ _ h=>h) (Or.inl ⟨by rfl,?hy106⟩) (by assumption) ?rest106
        case hy106=>(intro w hSw;(try dsimp only at hSw);first|(go_simp;done)|(go_simp;with_reducible rfl))
        try simp only[rgS]
        refine wpAnyH_take (i:=1) (v:= ?v107) rfl (by kernel_rfl) (by kernel_rfl) (by kernel_rfl) (fun _ _ _ h=>h) (Or.inl ⟨by rfl,?hy107⟩) (by assumption) ?rest107
        case hy107=>(intro w hSw;(try dsimp only at hSw);first|(go_simp;done)|(go_simp;with_reducible rfl))
        try simp only[rgS]
        refine wpAnyH_take (i:=2) (v:= ?v108) rfl (by kernel_rfl) (by kernel_rfl) (by kernel_rfl) (fun _ _ _ h=>h) (Or.inl ⟨by rfl,?hy108⟩) (by assumption) ?rest108
        case hy108=>(intro w hSw;(try dsimp only at hSw);first|(go_simp;done)|(go_simp;with_reducible rfl))
        try simp only[rgS]
        refine wpAnyH_take (i:=3) (v:= ?v109) rfl (by kernel_rfl) (by kernel_rfl) (by kernel_rfl) (fun _ _ _ h=>h) (Or.inl ⟨by rfl,?hy109⟩) (by assumption) ?rest109
        case hy109=>(intro w hSw;(try dsimp only at hSw);first|(go_simp;done)|(go_simp;with_reducible rfl))
        try simp only[rgS]
        refine wpAnyH_ready (rs:=[4]) (by kernel_rfl) (by simp) ?_
        refine AllReadyH.cons rfl (fun K hK=> ?_) AllReadyH.nil
        go_simp
        go_at_call 60
        refine(HNM.out _).mono ?_
        rintro e w4 ⟨rfl,rfl⟩
        (try go_wp2_with fail)
        refine hK.out _ _ (by exact⟨y0,y2⟩) (fun hHeld2=> ?_)
        clear hK K hHeld
        try simp only[rgS]
        refine wpAnyH_take (i:=5) (v:= ?v110) rfl (by kernel_rfl) (by kernel_rfl) (by kernel_rfl) (fun _ _ _ h=>h) (Or.inl ⟨by rfl,?hy110⟩) (by assumption) ?rest110
        case hy110=>(intro w hSw;(try dsimp only at hSw);first|(go_simp;done)|(go_simp;with_reducible rfl))
        try simp only[rgS]
        refine wpAnyH_take (i:=6) (v:= ?v111) rfl (by kernel_rfl) (by kernel_rfl) (by kernel_rfl) (fun _ _ _ h=>h) (Or.inl ⟨by rfl,?hy111⟩) (by assumption) ?rest111
        case hy111=>(intro w hSw;(try dsimp only at hSw);first|(go_simp;done)|(go_simp;with_reducible rfl))
        try simp only[rgS]
        refine wpAnyH_take (i:=7) (v:= ?v112) rfl (by kernel_rfl) (by kernel_rfl) (by kernel_rfl) (fun _ _ _ h=>h) (Or.inl ⟨by rfl,?hy112⟩) (by assumption) ?rest112
        case hy112=>(intro w hSw;(try dsimp only at hSw);first|(go_simp;done)|(go_simp;with_reducible rfl))
        try simp only[rgS]
        refine wpAnyH_take (i:=8) (v:= .bool true) rfl (by kernel_rfl) (by kernel_rfl) (by kernel_rfl) (fun _ _ _ h=>h) (Or.inl ⟨by rfl,?hy113⟩) (by assumption) ?rest113
        case hy113=>(intro w hSw;(try dsimp only at hSw);go_simp;first|done|exact congrArg Value.bool dgz|(simp;omega)|simp_all)
        try simp only[rgS]
        refine wpAnyH_take (i:=9) (v:= ?v114) rfl (by kernel_rfl) (by kernel_rfl) (by kernel_rfl) (fun _ _ _ h=>h) (Or.inl ⟨by rfl,?hy114⟩) (by assumption) ?rest114
        case hy114=>(intro w hSw;(try dsimp only at hSw);first|(go_simp;done)|(go_simp;with_reducible rfl))
        try simp only[rgS]
        refine wpAnyH_take (i:=10) (v:= ?v115) rfl (by kernel_rfl) (by kernel_rfl) (by kernel_rfl) (fun _ _ _ h=>h) (Or.inl ⟨by rfl,?hy115⟩) (by assumption) ?rest115
        case hy115=>(intro w hSw;(try dsimp only at hSw);first|(go_simp;done)|(go_simp;with_reducible rfl))
        try simp only[rgS]
        refine wpAnyH_take (i:=11) (v:= ?v116) rfl (by kernel_rfl) (by kernel_rfl) (by kernel_rfl) (fun _ _ _ h=>h) (Or.inl ⟨by rfl,?hy116⟩) (by assumption) ?rest116
        case hy116=>(intro w hSw;(try dsimp only at hSw);first|(go_simp;done)|(go_simp;with_reducible rfl))
        try simp only[rgS]
        refine wpAnyH_take (i:=12) (v:= ?v117) rfl (by kernel_rfl) (by kernel_rfl) (by kernel_rfl) (fun _ _ _ h=>h) (Or.inl ⟨by rfl,?hy117⟩) (by assumption) ?rest117
        case hy117=>(intro w hSw;(try dsimp only at hSw);first|(go_simp;done)|(go_simp;with_reducible rfl))
        try simp only[rgS]
        refine wpAnyH_take (i:=13) (v:= ?v118) rfl (by kernel_rfl) (by kernel_rfl) (by kernel_rfl) (fun _ _ _ h=>h) (Or.inl ⟨by rfl,?hy118⟩) (by assumption) ?rest118
        case hy118=>(intro w hSw;(try dsimp only at hSw);first|(go_simp;done)|(go_simp;with_reducible rfl))
        try simp only[rgS]
        refine wpAnyH_take (i:=14) (v:= ?v119) rfl (by kernel_rfl) (by kernel_rfl) (by kernel_rfl) (fun _ _ _ h=>h) (Or.inl ⟨by rfl,?hy119⟩) (by assumption) ?rest119
        case hy119=>(intro w hSw;(try dsimp only at hSw);first|(go_simp;done)|(go_simp;with_reducible rfl))
        try simp only[rgS]
        refine wpAnyH_take (i:=15) (v:= ?v120) rfl (by kernel_rfl) (by kernel_rfl) (by kernel_rfl) (fun _ _ _ h=>h) (Or.inl ⟨by rfl,?hy120⟩) (by assumption) ?rest120
        case hy120=>(intro w hSw;(try dsimp only at hSw);first|(go_simp;done)|(go_simp;with_reducible rfl))
        try simp only[rgS]
        refine wpAnyH_take (i:=16) (v:= ?v121) rfl (by kernel_rfl) (by kernel_rfl) (by kernel_rfl) (fun _ _ _ h=>h) (Or.inl ⟨by rfl,?hy121⟩) (by assumption) ?rest121
        case hy121=>(intro w hSw;(try dsimp only at hSw);first|(go_simp;done)|(go_simp;with_reducible rfl))
        try simp only[rgS]
        refine wpAnyH_take (i:=17) (v:= ?v122) rfl (by kernel_rfl) (by kernel_rfl) (by kernel_rfl) (fun _ _ _ h=>h) (Or.inl ⟨by rfl,?hy122⟩) (by assumption) ?rest122
        case hy122=>(intro w hSw;(try dsimp only at hSw);first|(go_simp;done)|(go_simp;with_reducible rfl))
        try simp only[rgS]
        refine wpAnyH_take (i:=18) (v:= ?v123) rfl (by kernel_rfl) (by kernel_rfl) (by kernel_rfl) (fun _ _ _ h=>h) (Or.inl ⟨by rfl,?hy123⟩) (by assumption) ?rest123
        case hy123=>(intro w hSw;(try dsimp only at hSw);first|(go_simp;done)|(go_simp;with_reducible rfl))
        try simp only[rgS]
        refine wpAnyH_take (i:=19) (v:= ?v124) rfl (by kernel_rfl) (by kernel_rfl) (by kernel_rfl) (fun _ _ _ h=>h) (Or.inl ⟨by rfl,?hy124⟩) (by assumption) ?rest124
        case hy124=>(intro w hSw;(try dsimp only at hSw);first|(go_simp;done)|(go_simp;with_reducible rfl))
        try simp only[rgS]
        refine wpAnyH_take (i:=20) (v:= ?v125) rfl (by kernel_rfl) (by kernel_rfl) (by kernel_rfl) (fun _ _ _ h=>h) (Or.inl ⟨by rfl,?hy125⟩) (by assumption) ?rest125
        case hy125=>(intro w hSw;(try dsimp only at hSw);first|(go_simp;done)|(go_simp;with_reducible rfl))
        try simp only[rgS]
        refine wpAnyH_take (i:=21) (v:= ?v126) rfl (by kernel_rfl) (by kernel_rfl) (by kernel_rfl) (fun _ _ _ h=>h) (Or.inl ⟨by rfl,?hy126⟩) (by assumption) ?rest126
        case hy126=>(intro w hSw;(try dsimp only at hSw);first|(go_simp;done)|(go_simp;with_reducible rfl))
        try simp only[rgS]
        refine wpAnyH_done (by kernel_rfl) ?_ _
        clear hHeld2
        go_wp2
        go_ret
        exact⟨zax HT.out.symm,HBE.out.drew⟩
   ·obtain rfl:k=n:=by omega
    have HT:Hid (R=true):=Lib.hid (by rw[HRUN.out,HN.out,List.drop_length,chkG])
    clear hlt
    go_wp2
    go_ret
    exact⟨zax HT.out.symm,HBE.out⟩
end Go.Proofs.YtjfgmgkhinehaaaGreatDoor
