
import Derived.Shelf.Abstract
import Derived.Maps.RangeWalk
import Derived.Test.YtceddodfddlncaaGreatDoorJb04
set_option maxRecDepth 100000
set_option maxHeartbeats 16000000
set_option linter.all false
namespace Go.Proofs.YtceddodfddlncaaGreatDoor
open Go Go.RowKit Go.Maps
theorem strKey:Keyed Tryz.prog 9:=string_keyed Tryz.underlying9
theorem zeroUnit (w:World):(zeroValue 196).run Tryz.prog w= .ok (.agg #[]) w:=by kernel_rfl
theorem run_makeMapN (n:Nat) (w:World):(Instr.makeMap 195 (some (.int .i64 (n:Int)))).run Tryz.prog w= .ok (.map (some w.heap.size)) (w.alloc (.map #[] 0)):=by
 unfold Instr.makeMap
 simp[Sem.run_bind,run_underlying Tryz.underlying195,asInt]
 rfl
def setD (ns:List ByteArray):DataW Unit:=setOf (.agg []) (ns.map fun x=>Lit.string (nmL x))
theorem has_setD (ns:List ByteArray) (x:ByteArray):Maps.has (setD ns) (.string (nmL x))=hasN ns x:=by
 unfold setD
 rw[has_setOf _ _ _ (by intro y hy;obtain⟨z,_,rfl⟩:=List.mem_map.1 hy;trivial),List.any_map]
 unfold hasN
 congr 1
 funext y
 show(Lit.string (nmL y)).sameKey (.string (nmL x))=(y.toList==x.toList)
 rw[zlq,zlq];rfl
theorem setD_snoc (ns:List ByteArray) (x:ByteArray):setD (ns++[x])=(setD ns).put (.string (nmL x)) (.agg []):=by
 unfold setD
 rw[List.map_append,List.map_singleton,setOf_snoc]
theorem keyS (x:ByteArray) (h:x.size≤1000000000):keyOf Tryz.prog 9 (.string x)=some (.string (nmL x)):=Go.WideMaps.keyOf_string_mk Tryz.underlying9 (by unfold maxLen;omega)
def SetAt (w:World) (vb mb:Nat) (ns:List ByteArray):Prop:=w.cell? ⟨vb,0,none⟩=some (.map (some mb))∧vb<w.heap.size∧mb<w.heap.size∧ ∃n,w.ownsMap Tryz.prog 9 unitElem mb n (setD ns)
theorem SetAt.below {w w':World} {vb mb:Nat} {ns:List ByteArray} (h:SetAt w vb mb ns) (hb:Below w.heap.size w w'):SetAt w' vb mb ns:=by
 obtain⟨h1,h2,h3,n,es,clock,h4,h5⟩:=h
 exact⟨(hb.cell (p:=⟨vb,0,none⟩) h2).trans h1,Nat.lt_of_lt_of_le h2 hb.size,Nat.lt_of_lt_of_le h3 hb.size,n,es,clock,by rw[hb.block mb h3];exact h4,h5⟩
theorem isIn_any (vb mb:Nat) (ns:List ByteArray) (x:ByteArray) (w:World) (h:SetAt w vb mb ns) (hx:x.size≤1000000000):
  Calls Tryz.prog 131 #[.string x,.pointer (some ⟨vb,0,none⟩)] w fun e w'=>e= .returned (.bool (hasN ns x))∧Below w.heap.size w w':=by
 obtain⟨h1,h2,h3,n,hown⟩:=h
 have HR:Hid (Maps.has (setD ns) (.string (nmL x))=hasN ns x):=Lib.hid (has_setD ns x)
 have HOW:=Lib.hid hown
 have HK:=Lib.hid (keyS x hx)
 have HB:=Lib.hid (fun o=>zad w o)
 clear hown
 go_enter Tryz.func131,Tryz.ntmps131
 go_wp2_with(at_lookup;refine wpList_lookup_own_unit _ rfl _ _ 195 rfl 9 196 strKey Tryz.underlying195 (zeroUnit _) mb n _ rfl HOW.out _ _ rfl HK.out ?_;rw[HR.out])
 go_ret
 exact⟨rfl,HB.out _⟩
theorem among_any (v:Value) (ns:List ByteArray) (w:World) (h:SliceN w v ns) (hn:ns.length≤1000000000):
  Calls Tryz.prog 96 #[v] w fun e w'=> ∃vb mb,e= .returned (.func (.func 131) #[] #[.pointer (some ⟨vb,0,none⟩)])∧w.heap.size≤vb∧SetAt w' vb mb ns∧Below w.heap.size w w':=by
 obtain⟨A,c,rfl,hc,hl,hok⟩:=h
 obtain⟨n,hnn⟩: ∃n,n=ns.length:=⟨_,rfl⟩
 rw[←hnn]at hc hn⊢
 have HN:=Lib.hid hnn
 have HL:=Lib.hid hl
 have HOK:=Lib.hid hok
 have hmm:=run_makeMapN n
 have HM0:Hid (∀W:World,(W.alloc (.map #[] 0)).ownsMap Tryz.prog 9 unitElem W.heap.size 0 (setD [])):=Lib.hid (fun W=>World.ownsMap_made _ _ _ _)
 clear hnn hl hok
 go_enter Tryz.func96,Tryz.ntmps96
 go_wp2
 go_loopw[11] (fun i wr=> ∃k:Nat,k≤n∧i= .int .i64 (k:Int)∧wr.ownsMap Tryz.prog 9 unitElem w.heap.size k (setD (ns.take k))∧wr.cell? ⟨w.heap.size+1,0,none⟩=some (.map (some w.heap.size))∧Below w.heap.size w wr∧w.heap.size+2≤wr.heap.size) (fun i _=>n-(intOf i).toNat)
 case atStart=>
  refine⟨0,Nat.zero_le _,rfl,?_,by simp,?_,by simp⟩
  ·rw[List.take_zero]
   exact(HM0.out w).alloc _
  ·exact(zad w _).alloc (by simp) _
 case round=>
  obtain⟨k,hk,rfl,hown,hvar,hbel,hsz⟩:=hrel
  have HOW:=Lib.hid hown
  have HBE:=Lib.hid hbel
  clear hown hbel
  by_cases hlt:k<n
  ·have hkl:k<ns.length:=by rw[←HN.out];exact hlt
   obtain⟨b,o,rfl,_,hcell⟩:=(HL.out.below HBE.out).at hkl
   have hi0:(0:Int)≤(k:Int):=by omega
   have HST:Hid (setD (ns.take (k+1))=(setD (ns.take k)).put (.string (nmL ns[k])) (.agg [])):=Lib.hid (by rw[List.take_succ_eq_append_getElem hkl,setD_snoc])
   have HK:=Lib.hid (keyS ns[k] (HOK.out _ (List.getElem_mem hkl)))
   obtain⟨x,hx⟩: ∃x,x=ns[k]:=⟨_,rfl⟩
   rw[←hx]at hcell HST HK
   clear hx hkl
   go_wp2_with(at_mapUpdate;refine wpList_mapUpdate_own _ rfl _ _ _ 195 rfl 9 196 strKey Tryz.underlying195 (unitElem (H:=Unit)) w.heap.size k _ rfl HOW.out (by unfold maxLen;omega) _ _ _ rfl rfl HK.out _ [] unitElem_mk ?_;intro w1 hown1 hgrow1)
   have h1:=hgrow1.size
   have hv1:w1.cell? ⟨w.heap.size+1,0,none⟩=some (.map (some w.heap.size)):=by
    rw[←hvar];unfold World.cell?
    rw[hgrow1.block (w.heap.size+1) (by omega) (by simp)]
   go_roundw
   case rel=>exact⟨k+1,by omega,by go_num,by rw[HST.out];exact hown1,hv1,HBE.out.grown hgrow1 HBE.out.size (fun j hj=>by cases hj;exact Nat.le_refl _),by omega⟩
   case measure=>simp[intOf];omega
  ·obtain rfl:k=n:=by omega
   have HT:Hid (ns.take k=ns):=Lib.hid (by rw[HN.out];exact List.take_length)
   clear hlt
   go_wp2
   go_ret
   refine⟨w.heap.size+1,w.heap.size,rfl,by omega,⟨hvar,by omega,by omega,k,?_⟩,HBE.out⟩
   have:=HOW.out
   rwa [HT.out]at this
end Go.Proofs.YtceddodfddlncaaGreatDoor
namespace Go.Proofs.YtceddodfddlncaaGreatDoor
open Go Go.RowKit Go.Shelf
theorem enterIn: ∀args w,(callFunc 131 args).run Tryz.prog w= .ok (.enter 131 args) w:=enters_of Tryz.func131 (by kernel_rfl) rfl
theorem within_lies (A:Option Addr) (c:Nat) (vb:Value) (a b:List ByteArray) (w:World) (hl:LiesN w A a) (hok:NmOk a) (hb:SliceN w vb b) (hn:a.length≤1000000000) (hn2:b.length≤1000000000):
  Calls Tryz.prog 65 #[.slice A a.length c,vb] w fun e w'=>e= .returned (.bool (a.all (hasN b)))∧Below w.heap.size w w':=by
 obtain⟨n,hnn⟩: ∃n,n=a.length:=⟨_,rfl⟩
 rw[←hnn]at hn⊢
 have HN:=Lib.hid hnn
 have HL:=Lib.hid hl
 have HOK:=Lib.hid hok
 have HM:=Lib.hid (among_any vb b w hb hn2)
 have eg:=enterIn
 obtain⟨R,hR⟩: ∃R,R=a.all (hasN b):=⟨_,rfl⟩
 rw[←hR]
 have HR:=Lib.hid hR
 clear hb hnn hl hok hR
 go_enter Tryz.func65,Tryz.ntmps65
 go_wp2_with fail
 refine HM.out.mono ?_
 rintro e w1 ⟨bx,mb,rfl,hvb,hset,hb1⟩
 have HSET:=Lib.hid hset
 have HB1:=Lib.hid hb1
 clear hset hb1 HM
 go_wp2
 go_loopw[12] (fun i wr=> ∃k:Nat,k≤n∧i= .int .i64 (k:Int)∧R=(a.drop k).all (hasN b)∧Below w1.heap.size w1 wr) (fun i _=>n-(intOf i).toNat)
 case atStart=>exact⟨0,Nat.zero_le _,rfl,HR.out,Below.refl _ _⟩
 case round=>
  obtain⟨k,hk,rfl,hrun,hbel⟩:=hrel
  have HBE:=Lib.hid hbel
  have HRUN:=Lib.hid hrun
  clear hbel hrun
  by_cases hlt:k<n
  ·have hkl:k<a.length:=by rw[←HN.out];exact hlt
   obtain⟨b',o,rfl,_,hcell⟩:=((HL.out.below HB1.out).below HBE.out).at hkl
   have hi0:(0:Int)≤(k:Int):=by omega
   have HD:Hid (a.drop k=a[k]::a.drop (k+1)):=Lib.hid (List.drop_eq_getElem_cons hkl)
   have HIN:=Lib.hid (isIn_any bx mb b a[k] wr (HSET.out.below HBE.out) (HOK.out _ (List.getElem_mem hkl)))
   obtain⟨x,hx⟩: ∃x,x=a[k]:=⟨_,rfl⟩
   rw[←hx]at hcell HD HIN
   clear hx hkl
   cases hp:hasN b x with
   |true=>
    rw[hp]at HIN
    have HST:Hid (R=(a.drop (k+1)).all (hasN b)):=Lib.hid (by rw[HRUN.out,HD.out,List.all_cons,hp,Bool.true_and])
    clear hp
    go_wp2_with fail
    refine HIN.out.mono ?_
    rintro e w2 ⟨rfl,hb2⟩
    have HB2:=Lib.hid (HBE.out.trans (hb2.mono HBE.out.size))
    clear hb2
    go_wp2
    go_roundw
    case rel=>exact⟨k+1,by omega,by go_num,HST.out,HB2.out⟩
    case measure=>simp[intOf];omega
   |false=>
    rw[hp]at HIN
    have HST:Hid (R=false):=Lib.hid (by rw[HRUN.out,HD.out,List.all_cons,hp,Bool.false_and])
    clear hp
    go_wp2_with fail
    refine HIN.out.mono ?_
    rintro e w2 ⟨rfl,hb2⟩
    have HB2:=Lib.hid (HBE.out.trans (hb2.mono HBE.out.size))
    clear hb2
    go_wp2
    go_ret
    exact⟨zcd HST.out.symm,HB1.out.trans (HB2.out.mono HB1.out.size)⟩
  ·obtain rfl:k=n:=by omega
   have HST:Hid (R=true):=Lib.hid (by rw[HRUN.out,HN.out,List.drop_length];rfl)
   clear hlt
   go_wp2
   go_ret
   exact⟨zcd HST.out.symm,HB1.out.trans (HBE.out.mono HB1.out.size)⟩
end Go.Proofs.YtceddodfddlncaaGreatDoor
namespace Go.Proofs.YtceddodfddlncaaGreatDoor
open Go Go.RowKit
section
variable {P:Program} {w:World} {o:Oper} {a:Act} {K:Act→World→Prop} {Q:Exit→Act→World→Prop}
theorem ziK (ty:TypeId) (z:List Value) (ho:o.op= .alloc ty) (hz:(P.info? ty).map (·.zero)=some (some (.agg z.toArray)))
  (h: ∀g w',w.heap.size≤g→Blk w' g ty z→w.grownBy w' none→K (a.put o.dst (.pointer (some ⟨g,0,none⟩))) w'):o.wp P a w K Q:=by
 have hzero:(zeroValue ty).run P w= .ok (.agg z.toArray) w:=by
  cases hq:P.info? ty with
  |none=>simp[hq]at hz
  |some i=>
   simp[hq]at hz
   simp[zeroValue,typeInfo,hq,hz]
 unfold Oper.wp execOp
 simp only[ho,Instr.alloc,Sem.run_bind,hzero,Result.andThen_ok]
 exact h w.heap.size (w.alloc (.cells z.toArray ty)) (Nat.le_refl _) (heap_alloc_new w _) (World.grownBy_alloc w _ none)
theorem zfh (ty:TypeId) (x y:Operand) (ho:o.op= .store ty x y) (g off:Nat) (ds:List Value) (hx:a.eval x= .pointer (some ⟨g,off,none⟩)) (hy:a.eval y= .agg ds.toArray)
  (t:TypeId) (cs:List Value) (hb:Blk w g t cs) (hl:off+ds.length≤cs.length) (hi:(P.info? ty).map (·.size)=some ds.length) (h1: ∀v∈ds,v.oneCell'=true)
  (h: ∀w',Blk w' g t (splice cs off ds)→w.grownBy w' (some g)→K (a.put o.dst undef) w'):o.wp P a w K Q:=
 wp_store_mid ty x y ho g off ds.toArray hx hy (hb.there off _ (by simpa using hl)) (by simpa using hi) (all_one h1)
  (by have:=zcw g t ds off cs w hb hl;exact h _ this.1 this.2)
end
def zeY (l:List Int) (k:Nat):Int:=l.getD (k/8) 0/2^(7-k%8)%2
def sixk (l:List Int) (at_:Nat):Nat→Int
 |0=>0
 |k+1=>2*sixk l at_ k+zeY l (at_+k)
def refL (l:List Int):Nat→List Int
 |0=>[]
 |j+1=>refL l j++[sg (sixk l (6*j) 6)]
@[simp] theorem length_refL (l:List Int): ∀j,(refL l j).length=j
 |0=>rfl
 |j+1=>by simp[refL,length_refL l j]
theorem bitAt_bd (l:List Int) (k:Nat):0≤zeY l k∧zeY l k≤1:=by unfold zeY;omega
theorem sixk_bd (l:List Int) (a:Nat): ∀k,0≤sixk l a k∧sixk l a k<2^k
 |0=>⟨Int.le_refl _,by show(0:Int)<2^0;decide⟩
 |k+1=>by
  have h:=sixk_bd l a k
  have hb:=bitAt_bd l (a+k)
  rw[sixk,Int.pow_succ]
  omega
theorem bitAt_three (a b c:Int) (r:List Int) (k:Nat):zeY (a::b::c::r) (k+24)=zeY r k:=by
 unfold zeY
 rw[show(k+24)/8=k/8+3 by omega,show(k+24)%8=k%8 by omega]
 rfl
theorem zlV (a b c:Int) (r:List Int) (at_:Nat): ∀k,sixk (a::b::c::r) (at_+24) k=sixk r at_ k
 |0=>rfl
 |k+1=>by
  rw[sixk,sixk,zlV a b c r at_ k,show at_+24+k=at_+k+24 by omega,bitAt_three]
theorem bits_of (l:List Int) (at_:Nat):sixk l at_ 6=32*zeY l at_+16*zeY l (at_+1)+8*zeY l (at_+2)+4*zeY l (at_+3)+2*zeY l (at_+4)+zeY l (at_+5):=by
 simp only[sixk,Nat.add_zero];omega
theorem zjh (a b c:Int) (r:List Int) (ha:0≤a∧a≤255) (hb:0≤b∧b≤255) (hc:0≤c∧c≤255):
  sixk (a::b::c::r) 0 6=a/4∧sixk (a::b::c::r) 6 6=a%4*16+b/16∧sixk (a::b::c::r) 12 6=b%16*4+c/64∧sixk (a::b::c::r) 18 6=c%64:=by
 refine⟨?_,?_,?_,?_⟩<;>(rw[bits_of];simp only[zeY,List.getD_eq_getElem?_getD,Nat.reduceAdd,Nat.reduceDiv,Nat.reduceMod,Nat.reduceSub,List.getElem?_cons_zero,List.getElem?_cons_succ,Option.getD_some,Int.reducePow];omega)
theorem ref_first (a b c:Int) (r:List Int) (ha:0≤a∧a≤255) (hb:0≤b∧b≤255) (hc:0≤c∧c≤255):
  ∀j,refL (a::b::c::r) (j+4)=sg (a/4)::sg (a%4*16+b/16)::sg (b%16*4+c/64)::sg (c%64)::refL r j
 |0=>by
  obtain⟨h1,h2,h3,h4⟩:=zjh a b c r ha hb hc
  simp only[refL,Nat.mul_zero,Nat.mul_one,Nat.reduceMul,h1,h2,h3,h4,List.nil_append,List.cons_append]
 |j+1=>by
  rw[show j+1+4=(j+4)+1 by omega,refL,ref_first a b c r ha hb hc j,refL,show 6*(j+4)=6*j+24 by omega,zlV]
  rfl
theorem bitAt_pad (l:List Int) (k:Nat): ∀m,zeY (l++List.replicate m 0) k=zeY l k:=fun m=>by
 unfold zeY
 congr 2
 simp only[List.getD_eq_getElem?_getD]
 rcases Nat.lt_or_ge (k/8) l.length with h|h
 ·rw[List.getElem?_append_left h]
 ·rw[List.getElem?_append_right h,List.getElem?_eq_none h,List.getElem?_replicate]
  split<;>rfl
theorem zmr (l:List Int) (a m:Nat): ∀k,sixk (l++List.replicate m 0) a k=sixk l a k
 |0=>rfl
 |k+1=>by rw[sixk,sixk,zmr l a m k,bitAt_pad]
theorem refL_enc: ∀(l:List Int),Byt l→refL l ((8*l.length+5)/6)=encL l
 |[],_=>rfl
 |[a],h=>by
  have ha:=h a (by simp)
  obtain⟨h1,h2,_,_⟩:=zjh a 0 0 [] ha (by decide) (by decide)
  have e: ∀at_,sixk [a] at_ 6=sixk [a,0,0] at_ 6:=fun at_=>(zmr [a] at_ 2 6).symm
  have e0:(8*[a].length+5)/6=2:=by simp
  rw[e0]
  simp only[refL,Nat.mul_zero,Nat.mul_one,e,h1,h2,List.nil_append,List.cons_append,encL]
  simp
 |[a,b],h=>by
  have ha:=h a (by simp)
  have hb:=h b (by simp)
  obtain⟨h1,h2,h3,_⟩:=zjh a b 0 [] ha hb (by decide)
  have e: ∀at_,sixk [a,b] at_ 6=sixk [a,b,0] at_ 6:=fun at_=>(zmr [a,b] at_ 1 6).symm
  have e0:(8*[a,b].length+5)/6=3:=by simp
  rw[e0]
  simp only[refL,Nat.mul_zero,Nat.mul_one,Nat.reduceMul,e,h1,h2,h3,List.nil_append,List.cons_append,encL]
  simp
 |a::b::c::r,h=>by
  have ha:=h a (by simp)
  have hb:=h b (by simp)
  have hc:=h c (by simp)
  have e:(8*(a::b::c::r).length+5)/6=(8*r.length+5)/6+4:=by simp only[List.length_cons];omega
  rw[e,ref_first a b c r ha hb hc,refL_enc r fun x hx=>h x (by simp[hx])]
  rfl
def oo (x y:Int):Int:=Int.ofNat (Nat.lor (Int.toNat (x%4294967296)) (Int.toNat (y%4294967296)))
theorem ofInt32 (x:Int):(BitVec.ofInt 32 x).toNat=(x%4294967296).toNat:=by
 rw[BitVec.toNat_ofInt];rfl
theorem oo_eq (x y:Int):bits .or .u32 x y=oo x y:=by
 have h:(BitVec.ofInt 32 x|||BitVec.ofInt 32 y).toNat=Nat.lor (x%4294967296).toNat (y%4294967296).toNat:=by rw[BitVec.toNat_or,ofInt32,ofInt32];rfl
 have hl:=(BitVec.ofInt 32 x|||BitVec.ofInt 32 y).isLt
 show IntKind.u32.wrap ((BitVec.ofInt 32 x|||BitVec.ofInt 32 y).toNat:Int)=_
 rw[IntKind.wrap_u32,oo,←h]
 show _=((BitVec.ofInt 32 x|||BitVec.ofInt 32 y).toNat:Int)
 omega
theorem or_byte (x y:Int) (hy:0≤y∧y≤255):bits .or .u32 (x*256%4294967296) y=(x*256+y)%4294967296:=by
 rw[oo_eq,oo]
 obtain⟨a,ha⟩: ∃a:Nat,(a:Int)=x%16777216:=⟨(x%16777216).toNat,by omega⟩
 obtain⟨b,hb⟩: ∃b:Nat,(b:Int)=y:=⟨y.toNat,by omega⟩
 have e1:(x*256%4294967296%4294967296).toNat=a<<<8:=by rw[Nat.shiftLeft_eq];omega
 have e2:(y%4294967296).toNat=b:=by omega
 rw[e1,e2]
 have h:Nat.lor (a<<<8) b=a<<<8+b:=(Nat.shiftLeft_add_eq_or_of_lt (by omega:b<2^8) a).symm
 rw[h,Nat.shiftLeft_eq]
 show((a*2^8+b:Nat):Int)=_
 omega
def zeK (b:List Int) (t:Nat):Nat→Int
 |0=>0
 |i+1=>(zeK b t i*256+b.getD (4*t+i) 0)%4294967296
def zav (b:List Int):Nat→List Int
 |0=>[]
 |n+1=>zav b n++[if n<16 then zeK b n 4 else zhc (zav b n) n]
@[simp] theorem length_wordsR (b:List Int): ∀n,(zav b n).length=n
 |0=>rfl
 |n+1=>by simp[zav,length_wordsR b n]
theorem accs_at (b:List Int) (hb:Bytes b): ∀k j,j<64→(accs b k).getD j 0=if 4*j+4≤k then zeK b j 4 else if 4*j<k then zeK b j (k-4*j)else 0
 |0,j,hj=>by
  rw[if_neg (by omega),if_neg (by omega)]
  show(List.replicate 64 (0:Int)).getD j 0=0
  rw[List.getD_eq_getElem?_getD,List.getElem?_replicate,if_pos hj];rfl
 |k+1,j,hj=>by
  have ih:=accs_at b hb k
  have hl:=length_accs b k
  by_cases hjk:k/4=j
  ·have h1:(accs b (k+1)).getD j 0=bits .or .u32 ((accs b k).getD (k/4) 0*256%4294967296) (b.getD k 0):=by
    rw[accs,List.getD_eq_getElem?_getD,List.getElem?_set,if_pos hjk,if_pos (by omega)];rfl
   have h2:(accs b k).getD (k/4) 0=zeK b j (k-4*j):=by
    rw[hjk,ih j hj,if_neg (by omega)]
    by_cases h:4*j<k
    ·rw[if_pos h]
    ·rw[if_neg h,show k-4*j=0 by omega];rfl
   rw[h1,h2,or_byte _ _ (hb k)]
   have h3:(zeK b j (k-4*j)*256+b.getD k 0)%4294967296=zeK b j (k-4*j+1):=by
    rw[zeK,show 4*j+(k-4*j)=k by omega]
   rw[h3]
   by_cases h:4*j+4≤k+1
   ·rw[if_pos h,show k-4*j+1=4 by omega]
   ·rw[if_neg h,if_pos (by omega),show k+1-4*j=k-4*j+1 by omega]
  ·have h1:(accs b (k+1)).getD j 0=(accs b k).getD j 0:=by
    rw[accs,List.getD_eq_getElem?_getD,List.getElem?_set,if_neg hjk,←List.getD_eq_getElem?_getD]
   rw[h1,ih j hj]
   by_cases h:4*j+4≤k
   ·rw[if_pos h,if_pos (by omega)]
   ·rw[if_neg h,if_neg (by omega),if_neg (by omega),if_neg (by omega)]
theorem zkz (b:List Int): ∀n j,j<n→j<16→(zav b n).getD j 0=zeK b j 4
 |n+1,j,hj,h16=>by
  rw[zav,List.getD_eq_getElem?_getD]
  by_cases h:j<n
  ·rw[List.getElem?_append_left (by rw[length_wordsR];exact h),←List.getD_eq_getElem?_getD,zkz b n j h h16]
  ·obtain rfl:j=n:=by omega
   rw[List.getElem?_append_right (by rw[length_wordsR];omega),length_wordsR,Nat.sub_self,if_pos h16];rfl
theorem nextw_take (L:List Int) (t m:Nat) (h16:16≤t) (hm:t≤m):zhc (L.take m) t=zhc L t:=by
 have e: ∀i,i<m→(L.take m).getD i 0=L.getD i 0:=fun i hi=>by
  rw[List.getD_eq_getElem?_getD,List.getD_eq_getElem?_getD,List.getElem?_take,if_pos hi]
 rw[zhc,zhc,e _ (by omega),e _ (by omega),e _ (by omega),e _ (by omega)]
theorem zla (b:List Int) (hb:Bytes b): ∀n,n≤48→(zbx b n).take (16+n)=zav b (16+n)
 |0,_=>by
  apply List.ext_getElem
  ·simp[zbx]
  ·intro i h1 h2
   simp only[length_wordsR]at h2
   have ha:=accs_at b hb 64 i (by omega)
   rw[if_pos (by omega)]at ha
   have hw:=zkz b 16 i (by omega) (by omega)
   have e1:(accs b 64).getD i 0=(accs b 64)[i]'(by rw[length_accs];omega):=by simp[List.getD,show i<64 by omega]
   have e2:(zav b 16).getD i 0=(zav b 16)[i]'(by rw[length_wordsR];omega):=by simp[List.getD,show i<16 by omega]
   rw[List.getElem_take]
   show(accs b 64)[i]'(by rw[length_accs];omega)=(zav b 16)[i]'(by rw[length_wordsR];omega)
   rw[←e1,←e2,ha,hw]
 |n+1,h=>by
  have ih:=zla b hb n (by omega)
  rw[zbx,show 16+(n+1)=(16+n)+1 by omega,zav,if_neg (by omega),←ih,nextw_take _ _ _ (by omega) (Nat.le_refl _),List.take_add_one,List.getElem?_set,if_pos rfl,if_pos (by rw[length_sched];omega),List.take_set_of_le (Nat.le_refl _)]
  rfl
theorem sched_ref (b:List Int) (hb:Bytes b):zbx b 48=zav b 64:=by
 rw[←zla b hb 48 (Nat.le_refl _),List.take_of_length_le (by rw[length_sched];omega)]
def cntR (m:Int):List Int:=[shr8 m 7%256,shr8 m 6%256,shr8 m 5%256,shr8 m 4%256,shr8 m 3%256,shr8 m 2%256,shr8 m 1%256,shr8 m 0%256]
theorem putC_eq (L:List Int) (m:Int) (hL:L.length=64):putC L m 8=L.take 56++cntR m:=by
 obtain⟨A,T,rfl,hA,hT⟩: ∃A T:List Int,L=A++T∧A.length=56∧T.length=8:=⟨L.take 56,L.drop 56,(List.take_append_drop 56 L).symm,by rw[List.length_take];omega,by rw[List.length_drop];omega⟩
 have hs: ∀(T:List Int) (i:Nat) (x:Int),(A++T).set (56+i) x=A++T.set i x:=fun T i x=>by
  rw[List.set_append_right _ _ (by omega),hA,show 56+i-56=i by omega]
 rw[List.take_left' hA]
 match T,hT with
 |[t0,t1,t2,t3,t4,t5,t6,t7],_=>
  simp only[putC,hs]
  rfl
def gapR (n:Nat):Nat:=if 55<n%64 then 119-n%64 else 55-n%64
def padR (n:Nat):List Int:=128::(List.replicate (gapR n) 0++cntR (n*8))
theorem length_padR (n:Nat):(padR n).length=gapR n+9:=by simp[padR,cntR]
theorem absorb_pad (bs:List Int):zby (bs++padR bs.length) ((bs.length+(gapR bs.length+9))/64)=finL bs:=by
 obtain⟨n,hn⟩: ∃n,n=bs.length:=⟨_,rfl⟩
 obtain⟨q,hq⟩: ∃q,q=n/64:=⟨_,rfl⟩
 obtain⟨r,hr⟩: ∃r,r=n%64:=⟨_,rfl⟩
 obtain⟨rest,hrest⟩: ∃l,l=bs.drop (64*q):=⟨_,rfl⟩
 have hrl:rest.length=r:=by rw[hrest,List.length_drop,←hn];omega
 have hd:(bs++padR n).drop (64*q)=rest++padR n:=by rw[hrest,List.drop_append_of_le_length (by rw[←hn];omega)]
 have h0:zby (bs++padR n) q=zby bs q:=zdq _ _ _ (by rw[←hn];omega)
 rw[finL,←hn,←hr,←hq,←hrest]
 by_cases h:55<r
 ·have hg:gapR n=119-r:=by rw[gapR,←hr,if_pos h]
  have hk:(n+(gapR n+9))/64=q+1+1:=by rw[hg];omega
  have hpad:rest++padR n=padB rest++(List.replicate 56 0++cntR (n*8)):=by
   rw[padR,padB,hg,hrl,show 119-r=(63-r)+56 by omega,←List.replicate_append_replicate]
   simp
  have hb1:((bs++padR n).drop (64*q)).take 64=padB rest:=by
   rw[hd,hpad,List.take_append_of_le_length (by rw[zbt (by omega)];omega),List.take_of_length_le (by rw[zbt (by omega)];omega)]
  have hb2:((bs++padR n).drop (64*(q+1))).take 64=putC (List.replicate 64 0) (n*8) 8:=by
   rw[show 64*(q+1)=64*q+64 by omega,←List.drop_drop,hd,hpad,List.drop_left' (zbt (by omega)),putC_eq _ _ (by simp),List.take_replicate]
   exact List.take_of_length_le (by simp[cntR])
  rw[hk,zby,zby,h0,hb1,hb2,if_pos (by omega)]
 ·have hg:gapR n=55-r:=by rw[gapR,←hr,if_neg h]
  have hk:(n+(gapR n+9))/64=q+1:=by rw[hg];omega
  have hb1:((bs++padR n).drop (64*q)).take 64=putC (padB rest) (n*8) 8:=by
   rw[hd,putC_eq _ _ (zbt (by omega))]
   have e1:(padB rest).take 56=rest++(128::List.replicate (55-r) 0):=by
    rw[padB,hrl,List.take_append,hrl,List.take_of_length_le (by omega),show 56-r=(55-r)+1 by omega,List.take_succ_cons,List.take_replicate,show min (55-r) (63-r)=55-r by omega]
   rw[e1,padR,hg]
   have e2:rest++128::(List.replicate (55-r) 0++cntR (n*8))=(rest++128::List.replicate (55-r) 0)++cntR (n*8):=by simp
   rw[e2]
   exact List.take_of_length_le (by simp[cntR];omega)
  rw[hk,zby,h0,hb1,if_neg (by omega)]
def outR (s r:List Int):Nat→List Int
 |0=>[]
 |k+1=>outR s r k++[(r.getD k 0+s.getD k 0)%4294967296]
@[simp] theorem length_outR (s r:List Int): ∀k,(outR s r k).length=k
 |0=>rfl
 |k+1=>by simp[outR,length_outR s r k]
theorem addU_take (s r:List Int): ∀k,k≤s.length→addU s r k=outR s r k++s.drop k
 |0,_=>rfl
 |k+1,h=>by
  have ih:=addU_take s r k (by omega)
  have hd:s.drop k=s.getD k 0::s.drop (k+1):=by
   rw[List.drop_eq_getElem_cons (by omega:k<s.length)]
   simp[List.getD,show k<s.length by omega]
  have hg:(outR s r k++s.drop k).getD k 0=s.getD k 0:=by
   rw[hd,List.getD_eq_getElem?_getD,List.getElem?_append_right (by rw[length_outR];omega),length_outR,Nat.sub_self];rfl
  rw[addU,ih,hg,List.set_append_right _ _ (by rw[length_outR];omega),length_outR,Nat.sub_self,hd,outR]
  simp[Int.add_comm]
theorem mixL_ref (s b:List Int) (hs:s.length=8) (hb:Bytes b):mixL s b=outR s (rnds (zav b 64) s 64) 8:=by
 rw[mixL,sched_ref b hb,addU_take _ _ _ (by omega),List.drop_eq_nil_of_le (by omega),List.append_nil]
theorem refName_any (s:ByteArray) (w:World):
  Calls Tryz.prog 16 #[.string s] w fun e w'=>e= .returned (.bool (zbJ (strL s)))∧w=w':=by
 have HLEN:=Lib.hid (zaQ s)
 by_cases h1:s.size<1
 ·have h1I:(s.size:Int)<1:=by omega
  have HR:Hid (zbJ (strL s)=false):=Lib.hid (by unfold zbJ;rw[decide_eq_false (by rw[zaQ];omega),Bool.false_and])
  clear h1
  go_enter Tryz.func16,Tryz.ntmps16
  go_wp2
  go_ret
  exact⟨zcd HR.out.symm,rfl⟩
 ·have h1I: ¬(s.size:Int)<1:=by omega
  by_cases h2:s.size≤32
  ·have h3: ¬(32:Int)<(s.size:Int):=by omega
   have HN:Hid (zbJ (strL s)=(strL s).all okB):=Lib.hid (by
    unfold zbJ
    rw[decide_eq_true (by rw[zaQ];omega),Bool.true_and])
   rw[HN.out]
   go_enter Tryz.func16,Tryz.ntmps16
   go_wp2
   go_loop [3] (fun v=> ∃k:Nat,k≤s.size∧v= .int .i64 (k:Int)∧(strL s).all okB=((strL s).drop k).all okB) (fun v=>s.size-(intOf v).toNat)
   case atStart=>exact⟨0,Nat.zero_le _,rfl,rfl⟩
   case round=>
    obtain⟨k,hk,rfl,hrun⟩:=hrel
    have HRUN:=Lib.hid hrun
    clear hrun h1 h1I h3 HN
    by_cases hlt:k<s.size
    ·have hd:=drop_strN s k hlt
     have hi0:(0:Int)≤(k:Int):=by omega
     have hcb:=s[k].toNat_lt
     have HSTEP:Hid ((strL s).all okB=(okB (s[k].toNat:Int)&&((strL s).drop (k+1)).all okB)):=Lib.hid (by rw[HRUN.out,hd,List.all_cons])
     clear hd
     have key:(((97≤(s[k].toNat:Int)∧(s[k].toNat:Int)≤122)∨(48≤(s[k].toNat:Int)∧(s[k].toNat:Int)≤57)∨(s[k].toNat:Int)=46∨(s[k].toNat:Int)=58∨(s[k].toNat:Int)=95∨(s[k].toNat:Int)=45))∨((¬97≤(s[k].toNat:Int)∨ ¬(s[k].toNat:Int)≤122)∧(¬48≤(s[k].toNat:Int)∨ ¬(s[k].toNat:Int)≤57)∧(s[k].toNat:Int)≠46∧(s[k].toNat:Int)≠58∧(s[k].toNat:Int)≠95∧(s[k].toNat:Int)≠45):=by omega
     rcases key with hyes|⟨k1,k2,e1,e2,e3,e4⟩
     ·have HR:Hid ((strL s).all okB=((strL s).drop (k+1)).all okB):=Lib.hid (by rw[HSTEP.out];unfold okB;rw[decide_eq_true hyes,Bool.true_and])
      clear HSTEP
      rcases hyes with⟨a,b⟩|⟨a,b⟩|a|a|a|a
      ·go_wp2
       go_round
       case rel=>exact⟨k+1,by omega,by go_num,HR.out⟩
       case measure=>simp[intOf];omega
      ·have a1: ¬97≤(s[k].toNat:Int):=by omega
       go_wp2
       go_round
       case rel=>exact⟨k+1,by omega,by go_num,HR.out⟩
       case measure=>simp[intOf];omega
      ·have q:((s[k].toNat:Int)==46)=true:=by simp[a]
       have qn:((s[k].toNat:Int)!=46)=false:=by rw[bne,q];rfl
       have a1: ¬97≤(s[k].toNat:Int):=by omega
       have a2: ¬48≤(s[k].toNat:Int):=by omega
       clear a
       go_wp2
       go_round
       case rel=>exact⟨k+1,by omega,by go_num,HR.out⟩
       case measure=>simp[intOf];omega
      ·have q:((s[k].toNat:Int)==58)=true:=by simp[a]
       have qn:((s[k].toNat:Int)!=58)=false:=by rw[bne,q];rfl
       have q1:((s[k].toNat:Int)==46)=false:=by simp[a]
       have q1n:((s[k].toNat:Int)!=46)=true:=by rw[bne,q1];rfl
       have a1: ¬97≤(s[k].toNat:Int):=by omega
       have a2:48≤(s[k].toNat:Int):=by omega
       have a3: ¬(s[k].toNat:Int)≤57:=by omega
       clear a
       go_wp2
       go_round
       case rel=>exact⟨k+1,by omega,by go_num,HR.out⟩
       case measure=>simp[intOf];omega
      ·have q:((s[k].toNat:Int)==95)=true:=by simp[a]
       have qn:((s[k].toNat:Int)!=95)=false:=by rw[bne,q];rfl
       have q1:((s[k].toNat:Int)==46)=false:=by simp[a]
       have q1n:((s[k].toNat:Int)!=46)=true:=by rw[bne,q1];rfl
       have q2:((s[k].toNat:Int)==58)=false:=by simp[a]
       have q2n:((s[k].toNat:Int)!=58)=true:=by rw[bne,q2];rfl
       have a1: ¬97≤(s[k].toNat:Int):=by omega
       have a2:48≤(s[k].toNat:Int):=by omega
       have a3: ¬(s[k].toNat:Int)≤57:=by omega
       clear a
       go_wp2
       go_round
       case rel=>exact⟨k+1,by omega,by go_num,HR.out⟩
       case measure=>simp[intOf];omega
      ·have q:((s[k].toNat:Int)==45)=true:=by simp[a]
       have qn:((s[k].toNat:Int)!=45)=false:=by rw[bne,q];rfl
       have q1:((s[k].toNat:Int)==46)=false:=by simp[a]
       have q1n:((s[k].toNat:Int)!=46)=true:=by rw[bne,q1];rfl
       have q2:((s[k].toNat:Int)==58)=false:=by simp[a]
       have q2n:((s[k].toNat:Int)!=58)=true:=by rw[bne,q2];rfl
       have q3:((s[k].toNat:Int)==95)=false:=by simp[a]
       have q3n:((s[k].toNat:Int)!=95)=true:=by rw[bne,q3];rfl
       have a1: ¬97≤(s[k].toNat:Int):=by omega
       have a2: ¬48≤(s[k].toNat:Int):=by omega
       clear a
       go_wp2
       go_round
       case rel=>exact⟨k+1,by omega,by go_num,HR.out⟩
       case measure=>simp[intOf];omega
     ·have HR:Hid ((strL s).all okB=false):=Lib.hid (by
       rw[HSTEP.out];unfold okB;rw[decide_eq_false (by omega),Bool.false_and])
      have q1:((s[k].toNat:Int)==46)=false:=by simp[e1]
      have q1n:((s[k].toNat:Int)!=46)=true:=by rw[bne,q1];rfl
      have q2:((s[k].toNat:Int)==58)=false:=by simp[e2]
      have q2n:((s[k].toNat:Int)!=58)=true:=by rw[bne,q2];rfl
      have q3:((s[k].toNat:Int)==95)=false:=by simp[e3]
      have q3n:((s[k].toNat:Int)!=95)=true:=by rw[bne,q3];rfl
      have q4:((s[k].toNat:Int)==45)=false:=by simp[e4]
      have q4n:((s[k].toNat:Int)!=45)=true:=by rw[bne,q4];rfl
      clear HSTEP e1 e2 e3 e4
      rcases k1 with k1|k1
      ·rcases k2 with k2|k2
       ·go_wp2
        go_ret
        exact⟨zcd HR.out.symm,rfl⟩
       ·have k3:48≤(s[k].toNat:Int):=by omega
        go_wp2
        go_ret
        exact⟨zcd HR.out.symm,rfl⟩
      ·have k3:97≤(s[k].toNat:Int):=by omega
       have k4:48≤(s[k].toNat:Int):=by omega
       have k5: ¬(s[k].toNat:Int)≤57:=by omega
       clear k2
       go_wp2
       go_ret
       exact⟨zcd HR.out.symm,rfl⟩
    ·obtain rfl:k=s.size:=by omega
     have HR:Hid ((strL s).all okB=true):=Lib.hid (by rw[HRUN.out,List.drop_of_length_le (by rw[HLEN.out];exact Nat.le_refl _)];rfl)
     clear hlt
     go_wp2
     go_ret
     exact⟨zcd HR.out.symm,rfl⟩
  ·have h3:(32:Int)<(s.size:Int):=by omega
   have HR:Hid (zbJ (strL s)=false):=Lib.hid (by unfold zbJ;rw[decide_eq_false (by rw[zaQ];omega),Bool.false_and])
   clear h1 h2
   go_enter Tryz.func16,Tryz.ntmps16
   go_wp2
   go_ret
   exact⟨zcd HR.out.symm,rfl⟩
end Go.Proofs.YtceddodfddlncaaGreatDoor
