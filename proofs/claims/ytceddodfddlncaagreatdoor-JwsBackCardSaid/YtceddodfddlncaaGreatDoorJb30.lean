
import Derived.Test.YtceddodfddlncaaGreatDoorJb27
import Derived.Test.YtceddodfddlncaaGreatDoorJb28
set_option maxRecDepth 100000
set_option maxHeartbeats 16000000
set_option linter.all false
namespace Go.Proofs.YtceddodfddlncaaGreatDoor
open Go Go.RowKit
structure MC where
 nm:ByteArray
 a0:Value
 a1:Value
 a2:Value
 a3:Value
 a4:Value
instance:Inhabited MC:=⟨⟨⟨#[]⟩,.int .i64 0,.int .i64 0,.int .i64 0,.int .i64 0,.int .i64 0⟩⟩
def encM (x:MC):List Value:=[.string x.nm,x.a0,x.a1,x.a2,x.a3,x.a4]
theorem pred_name (t:ByteArray) (B:Nat) (w:World) (hB:B<w.heap.size) (hcell:w.cell? ⟨B,0,none⟩=some (.string t)):
  PredBelow Tryz.prog 208 #[.pointer (some ⟨B,0,none⟩)] (fun x=> .agg (encM x).toArray) (fun x=>x.nm.toList==t.toList) w:=fun W x hb=>by
 have hc:W.cell? ⟨B,0,none⟩=some (.string t):=(hb.cell (p:=⟨B,0,none⟩) hB).trans hcell
 have hBW:B<W.heap.size:=Nat.lt_of_lt_of_le hB hb.size
 have hne:B≠W.heap.size:=by omega
 show Calls Tryz.prog 208 #[.agg #[.string x.nm,x.a0,x.a1,x.a2,x.a3,x.a4],.pointer (some ⟨B,0,none⟩)] W _
 go_enter Tryz.func208,Tryz.ntmps208
 go_wp2
 all_goals(go_ret;exact⟨by simp_all,hb.alloc hb.size _⟩)
theorem indexM_nil (g:Nat) (lb:Array Value) (c:Nat) (w:World):Calls Tryz.prog 219 #[.slice none 0 c,.func (.func g) #[] lb] w fun e w'=>e= .returned (.int .i64 (-1))∧w=w':=by
 go_enter Tryz.func219,Tryz.ntmps219
 go_wp2
 go_loopw[8] (fun v wr=>v= .int .i64 0∧wr=w) (fun _ _=>0)
 case atStart=>exact⟨rfl,rfl⟩
 case round=>
  obtain⟨rfl,rfl⟩:=hrel
  go_wp2
  go_ret
  exact⟨rfl,rfl⟩
theorem zns (g:Nat) (lb:Array Value) (c:Nat) (w:World):Calls Tryz.prog 207 #[.slice none 0 c,.func (.func g) #[] lb] w fun e w'=>e= .returned (.bool false)∧w=w':=by
 have HI:=Lib.hid (indexM_nil g lb c)
 go_enter Tryz.func207,Tryz.ntmps207
 go_wp2_with(go_at_call 219;refine(HI.out _).mono ?_;rintro e w' ⟨rfl,rfl⟩)
 go_ret
 exact⟨rfl,rfl⟩
def RowM (w:World) (v:Value) (zs:List MC):Prop:=(v= .slice none 0 0∧zs=[])∨ ∃g c,v= .slice (some ⟨g,0,none⟩) zs.length c∧g<w.heap.size∧ ∀j,j<zs.length→ ∀i u,(encM zs[j]!)[i]? =some u→w.cell? ⟨g,0+j*6+i,none⟩=some u
theorem znt (v:Value) (zs:List MC) (hz:zs.length≤1000000) (t:ByteArray) (B:Nat) (w:World) (hB:B<w.heap.size) (hcell:w.cell? ⟨B,0,none⟩=some (.string t)) (h:RowM w v zs):
  Calls Tryz.prog 207 #[v,.func (.func 208) #[] #[.pointer (some ⟨B,0,none⟩)]] w fun e w'=>e= .returned (.bool (zs.any fun x=>x.nm.toList==t.toList))∧Below w.heap.size w w':=by
 rcases h with⟨rfl,rfl⟩|⟨g,c,rfl,hg,hc⟩
 ·refine(zns _ _ _ w).mono ?_
  rintro e w' ⟨rfl,rfl⟩
  exact⟨rfl,Below.refl _ _⟩
 ·have eg: ∀args w,(callFunc 208 args).run Tryz.prog w= .ok (.enter 208 args) w:=enters_of Tryz.func208 (by kernel_rfl) rfl
  have:=AnyQ.slices_ContainsFunc Tryz.containsM 6 Tryz.isAgg133 Tryz.sizeOf133 encM (fun _=>rfl) (fun x=>x.nm.toList==t.toList) 208 #[.pointer (some ⟨B,0,none⟩)] eg g 0 zs.length c zs w (pred_name t B w hB hcell) (Nat.le_refl _) (by omega) hg hc
  rw[List.take_length]at this
  exact this
theorem RowM.moved {w w2:World} {v:Value} {zs:List MC} {rb:Nat} (h:RowM w v zs) (hg:w.grownBy w2 (some rb)) (hne:v.ownBlock≠some rb):RowM w2 v zs:=by
 rcases h with h|⟨g,c,rfl,hlt,hc⟩
 ·exact .inl h
 ·refine .inr ⟨g,c,rfl,Nat.lt_of_lt_of_le hlt hg.size,fun j hj i u hu=> ?_⟩
  rw[←hc j hj i u hu]
  unfold World.cell?
  rw[hg.block g hlt (by intro e;injection e with e;exact hne (by rw[e];rfl))]
def zii (l:List Int) (i:Nat) (ks:List ByteArray):(Nat×Int)⊕(ByteArray×Nat):=
 if(zan l (zaW l i)).2.2≠0 then .inl ((zan l (zaW l i)).2.1,(zan l (zaW l i)).2.2)
 else if hasK ks (toS (zan l (zaW l i)).1)=true then .inl (zaW l i,52)
 else .inr (toS (zan l (zaW l i)).1,(zan l (zaW l i)).2.1)
def NameTells (w:World) (rb:Nat) (s:ByteArray) (n:Int) (r:(Nat×Int)⊕(ByteArray×Nat)) (e:Ending) (w':World):Prop:=
 match r with
 | .inl (p,er)=>ziJ w rb (p:Nat) er e w'
 | .inr (t,j)=>e= .returned (.string t)∧zcg w w' rb s (j:Nat) n
theorem any_has (zs:List MC) (t:ByteArray):(zs.any fun x=>x.nm.toList==t.toList)=hasK (zs.map MC.nm) t:=by
 unfold hasK
 rw[List.any_map]
 congr 1
 funext x
 simp only[Function.comp_apply]
 by_cases h:x.nm=t
 ·rw[beq_str h,decide_eq_true h]
 ·rw[zmc h,decide_eq_false h]
theorem name_any (rb:Nat) (s:ByteArray) (i:Nat) (n:Int) (w:World) (v:Value) (zs:List MC) (h:Rdr w rb s i n) (hg:GW w rb) (hi:i≤s.size) (hs:s.size≤100000) (hz:zs.length≤1000000) (hrow:RowM w v zs) (hne:v.ownBlock≠some rb):
  Calls Tryz.prog 194 #[.pointer (some ⟨rb,0,none⟩),v] w (NameTells w rb s n (zii (strL s) i (zs.map MC.nm))):=by
 have hrlt:=h.lt
 obtain⟨r,hr⟩: ∃r,r=zii (strL s) i (zs.map MC.nm):=⟨_,rfl⟩
 have hsk:=zgz _ (strL s) i (Nat.le_refl _) (by rw[zaQ];exact hi)
 rw[zaQ]at hsk
 unfold zii at hr
 have HB:=Lib.hid (zbg rb s i n w h hi (by omega))
 obtain⟨p,hp⟩: ∃p,p=zaW (strL s) i:=⟨_,rfl⟩
 rw[←hp]at HB hsk hr
 have hps:=hsk.2
 have HQ:=Lib.hid (fun(W:World) (hr:Rdr W rb s p n) (hg:GW W rb)=>zli rb s p n W hr hg hps hs)
 obtain⟨Q,hQ⟩: ∃Q,Q=zan (strL s) p:=⟨_,rfl⟩
 rw[←hQ]at HQ hr
 rw[show zii (strL s) i (zs.map MC.nm)=r by rw[hr,hQ,hp];rfl]
 rw[←any_has]at hr
 have HR:=Lib.hid hr
 have HG:=Lib.hid hg
 have HROW:=Lib.hid hrow
 have HNE:=Lib.hid hne
 clear h hg hsk hr hp hQ hrow hne
 go_enter Tryz.func194,Tryz.ntmps194
 go_wp2_with(first|(go_at_call 129;(with_reducible refine HB.out.mono ?_);rintro e w1 ⟨rfl,hg1,hr1⟩;have HG1:=Lib.hid hg1;have HR1:=Lib.hid hr1;obtain⟨⟨c0,c1,c2⟩,f0,f1,f2⟩:=Rdr.cells hr1;clear hg1 hr1)|fail)
 refine(HQ.out _ HR1.out (HG.out.grown HG1.out)).mono ?_
 rintro e w2 (⟨he,rfl,hm⟩|⟨he,rfl,hg2⟩)
 ·have HE:Hid (r=if(zs.any fun x=>x.nm.toList==(toS Q.1).toList)=true then .inl (p,52)else .inr (toS Q.1,Q.2.1)):=Lib.hid (HR.out.trans (if_neg (fun h=>h he)))
  obtain⟨T,hT⟩: ∃T,T=toS Q.1:=⟨_,rfl⟩
  obtain⟨j,hj⟩: ∃j,j=Q.2.1:=⟨_,rfl⟩
  rw[←hT,←hj]at HE
  rw[←hT]
  rw[←hj]at hm
  have HG2:=Lib.hid (HG1.out.trans hm.1)
  have HR2:=Lib.hid hm.2
  clear hm he hT hj
  go_wp2_with fail
  have ga:w2.grownBy (w2.alloc (.cells #[.string T] 9)) none:=World.grownBy_alloc _ _ _
  have hca:(w2.alloc (.cells #[.string T] 9)).cell? ⟨w2.heap.size,0,none⟩=some (.string T):=Blk.cell (zck w2 rfl [.string T] 9) 0
  have HCA:=Lib.hid hca
  have HSZ:Hid (w2.heap.size<(w2.alloc (.cells #[.string T] 9)).heap.size):=Lib.hid (by simp)
  have HCC:=Lib.hid (znt v zs hz T w2.heap.size _ HSZ.out hca (HROW.out.moved (HG2.out.trans (ga.but _)) HNE.out))
  have HGA:=Lib.hid (HG2.out.trans (ga.but (some rb)))
  have HRA:Hid (Rdr (w2.alloc (.cells #[.string T] 9)) rb s j n):=Lib.hid (Blk.grownN HR2.out ga)
  obtain⟨b,hb⟩: ∃b,b=(zs.any fun x=>x.nm.toList==T.toList):=⟨_,rfl⟩
  rw[←hb]at HE HCC
  clear ga hca hb
  refine HCC.out.mono ?_
  rintro e w3 ⟨rfl,hb3⟩
  have HB3:=Lib.hid hb3
  have hc3:w3.cell? ⟨w2.heap.size,0,none⟩=some (.string T):=(hb3.cell (p:=⟨w2.heap.size,0,none⟩) HSZ.out).trans HCA.out
  have HG3:=Lib.hid (HGA.out.trans (zaX hb3 (some rb)))
  clear hb3
  cases b with
  |true=>
   have e1:r= .inl (p,52):=HE.out
   go_wp2_with(go_at_call 130;(with_reducible refine(zbf _ _ _).mono ?_);rintro e w' ⟨rfl,rfl⟩)
   exact⟨rfl,rfl,HG3.out⟩
  |false=>
   have e1:r= .inr (T,j):=HE.out
   go_wp2
   go_ret
   rw[e1]
   exact⟨rfl,HG3.out,Blk.below HRA.out HB3.out (HRA.out.lt)⟩
 ·have e1:r= .inl (Q.2.1,Q.2.2):=HR.out.trans (if_pos he)
  go_wp2
  exact⟨rfl,rfl,HG1.out.trans hg2⟩
def FlatM (W:World) (S:Nat→Prop):List (ByteArray×J)→List MC→Prop
 |[],zs=>zs=[]
 |m::r,zs=> ∃z zs',zs=z::zs'∧z.nm=m.1∧m.1.size≤9223372036854775807∧RepS W S m.2 (.agg #[z.a0,z.a1,z.a2,z.a3,z.a4])∧FlatM W S r zs'
theorem FlatM.length {S:Nat→Prop} {W:World}: ∀{ms:List (ByteArray×J)} {zs:List MC},FlatM W S ms zs→zs.length=ms.length
 |[],zs,h=>by rw[FlatM]at h;rw[h];rfl
 |m::r,zs,h=>by obtain⟨z,zs',rfl,_,_,_,h⟩:=h;simp[h.length]
theorem FlatM.names {S:Nat→Prop} {W:World}: ∀{ms:List (ByteArray×J)} {zs:List MC},FlatM W S ms zs→zs.map MC.nm=ms.map Prod.fst
 |[],zs,h=>by rw[FlatM]at h;rw[h];rfl
 |m::r,zs,h=>by obtain⟨z,zs',rfl,e,_,_,h⟩:=h;simp[h.names,e]
theorem FlatM.keeps {S T:Nat→Prop} {W W':World} (hk:Keeps S W W') (hT: ∀b,S b→b<W.heap.size→T b): ∀{ms:List (ByteArray×J)} {zs:List MC},FlatM W S ms zs→FlatM W' T ms zs
 |[],zs,h=>h
 |m::r,zs,h=>by obtain⟨z,zs',rfl,e,hs,hx,h⟩:=h;exact⟨z,zs',rfl,e,hs,RepS.keeps hk hT _ _ hx,h.keeps hk hT⟩
theorem FlatM.snoc {S:Nat→Prop} {W:World} {t:ByteArray} {x:J} {a0 a1 a2 a3 a4:Value} (ht:t.size≤9223372036854775807) (hx:RepS W S x (.agg #[a0,a1,a2,a3,a4])): ∀{ms:List (ByteArray×J)} {zs:List MC},FlatM W S ms zs→FlatM W S (ms++[(t,x)]) (zs++[⟨t,a0,a1,a2,a3,a4⟩])
 |[],zs,h=>by rw[FlatM]at h;subst h;exact⟨_,[],rfl,rfl,ht,hx,rfl⟩
 |m::r,zs,h=>by obtain⟨z,zs',rfl,e,hs,hx',h⟩:=h;exact⟨z,_,rfl,e,hs,hx',h.snoc ht hx⟩
def zeZ (zs:List MC):List Value:=zs.flatMap encM
theorem flatM_length (zs:List MC):(zeZ zs).length=zs.length*6:=by
 unfold zeZ
 induction zs with
 |nil=>rfl
 |cons z r ih=>rw[List.flatMap_cons,List.length_append,ih];simp[encM];omega
theorem znl: ∀(zs:List MC) (j:Nat),j<zs.length→ ∀i u,(encM zs[j]!)[i]? =some u→(zeZ zs)[j*6+i]? =some u
 |[],j,h,_,_,_=>by simp at h
 |z::r,0,_,i,u,hu=>by
  have hu:(encM z)[i]? =some u:=hu
  have hi:i<(encM z).length:=by
   by_cases h:i<(encM z).length
   ·exact h
   ·rw[List.getElem?_eq_none (by omega)]at hu;cases hu
  show(encM z++zeZ r)[0*6+i]? =some u
  rw[Nat.zero_mul,Nat.zero_add,List.getElem?_append_left hi,hu]
 |z::r,j+1,hj,i,u,hu=>by
  have hj:j<r.length:=by simpa using hj
  have hu:(encM r[j]!)[i]? =some u:=by
   rw[←hu];congr 2
  show(encM z++zeZ r)[(j+1)*6+i]? =some u
  have h6:(encM z).length=6:=rfl
  rw[List.getElem?_append_right (by omega),h6,show(j+1)*6+i-6=j*6+i by omega]
  exact znl r j hj i u hu
theorem own_row {w:World} {base n:Nat} {v:Value} {zs:List MC} (h:w.ownsRow base 133 6 v n (zeZ zs)) (hn:zs.length=n):RowM w v zs:=by
 rcases h.2 with⟨h',h0⟩|⟨g,cap,cur,h',_⟩
 ·exact .inl ⟨h',List.eq_nil_of_length_eq_zero (by omega)⟩
 ·subst h'
  refine .inr ⟨g,cap,by rw[hn],(h.lt g rfl).2,fun j hj i u hu=> ?_⟩
  have:=h.cells rfl _ _ (znl zs j hj i u hu)
  rwa [Addr.add_mid,show 0+(j*6+i)=0+j*6+i by omega]at this
structure OInv (W wr:World) (rb:Nat) (s:ByteArray) (dep:Int) (ms:List (ByteArray×J)) (zs:List MC) (vM:Value) (i n:Int):Prop where
 c2:Blk wr W.heap.size 227 [.pointer (some ⟨rb,0,none⟩)]
 c3:Blk wr (W.heap.size+1) 3 [.int .i64 dep]
 c4:Blk wr (W.heap.size+2) 63 zeros5
 c5:Blk wr (W.heap.size+3) 174 [vM]
 own:wr.ownsRow (W.heap.size+4) 133 6 vM ms.length (zeZ zs)
 flat:FlatM wr (fun b=>W.heap.size+4≤b∧vM.ownBlock≠some b) ms zs
 gr:W.grownBy wr (some rb)
 lt:rb<W.heap.size
 sz:W.heap.size+4≤wr.heap.size
 rdr:Rdr wr rb s i n
theorem OInv.row {W wr:World} {rb:Nat} {s:ByteArray} {dep:Int} {ms:List (ByteArray×J)} {zs:List MC} {vM:Value} {i n:Int} (h:OInv W wr rb s dep ms zs vM i n):RowM wr vM zs:=own_row h.own h.flat.length
theorem OInv.far {W wr:World} {rb:Nat} {s:ByteArray} {dep:Int} {ms:List (ByteArray×J)} {zs:List MC} {vM:Value} {i n:Int} (h:OInv W wr rb s dep ms zs vM i n):vM.ownBlock≠some rb:=fun e=>by have:=(h.own.lt rb e).1;have:=h.lt;omega
theorem OInv.moved {W wr w2:World} {rb:Nat} {s:ByteArray} {dep:Int} {ms:List (ByteArray×J)} {zs:List MC} {vM:Value} {i n j m:Int} (h:OInv W wr rb s dep ms zs vM i n) (hm:wr.grownBy w2 (some rb)) (hr:Rdr w2 rb s j m):OInv W w2 rb s dep ms zs vM j m:=by
 have lt:=h.lt
 have ne: ∀k,W.heap.size≤k→some k≠some rb:=fun k hk e=>by injection e with e;omega
 refine⟨h.c2.grown hm (ne _ (Nat.le_refl _)),h.c3.grown hm (ne _ (by omega)),h.c4.grown hm (ne _ (by omega)),h.c5.grown hm (ne _ (by omega)),h.own.kept hm ?_,?_,h.gr.trans hm,lt,Nat.le_trans h.sz hm.size,hr⟩
 ·cases hv:vM.ownBlock with
  |none=>exact .inl rfl
  |some g=>exact .inr (fun e=>by injection e with e;have:=(h.own.lt g hv).1;omega)
 ·exact h.flat.keeps ⟨hm.size,fun b hb hl=>hm.block b hl (ne b (by have:=hb.1;omega))⟩ (fun b hb _=>hb)
theorem OInv.add {W wr w4 w5:World} {rb:Nat} {s:ByteArray} {dep:Int} {ms:List (ByteArray×J)} {zs:List MC} {vM:Value} {i n j m:Int} {t:ByteArray} {x:J} {c0 c1 c2 c3 c4:Value} {g cap:Nat} (h:OInv W wr rb s dep ms zs vM i n) (h4:wr.grownBy w4 (some rb)) (hr:Rdr w4 rb s j m) (ht:t.size≤9223372036854775807)
  (hx:RepS w4 (fun b=>wr.heap.size≤b) x (.agg #[c0,c1,c2,c3,c4])) (hgr:w4.grownBy w5 vM.ownBlock) (hown:w5.ownsRow (W.heap.size+4) 133 6 (.slice (some ⟨g,0,none⟩) (ms.length+1) cap) (ms.length+1) (zeZ zs++[.string t,c0,c1,c2,c3,c4])) (hat:vM.ownBlock=some g∨w4.heap.size≤g):
  OInv W (w5.setCell ⟨W.heap.size+3,0,none⟩ (.slice (some ⟨g,0,none⟩) (ms.length+1) cap)) rb s dep (ms++[(t,x)]) (zs++[⟨t,c0,c1,c2,c3,c4⟩]) (.slice (some ⟨g,0,none⟩) (ms.length+1) cap) j m:=by
 have hI:=h.moved h4 hr
 have g7:=zaV w5 (W.heap.size+3) 0 (.slice (some ⟨g,0,none⟩) (ms.length+1) cap)
 have lt:=h.lt
 have hgB:W.heap.size+4≤g:=(hown.lt g rfl).1
 have lL:=fun k hk=>(hI.own.lt k hk).1
 have s4:=hI.sz
 have keep: ∀k,k<w4.heap.size→k<W.heap.size+4→k≠W.heap.size+3→(w5.setCell ⟨W.heap.size+3,0,none⟩ (.slice (some ⟨g,0,none⟩) (ms.length+1) cap)).heap[k]? =w4.heap[k]? :=fun k hk h1 h2=>by
  rw[g7.block k (Nat.lt_of_lt_of_le hk hgr.size) (by intro e;injection e with e;exact h2 e)]
  exact hgr.block k hk (fun e=>by have:=lL k e.symm;omega)
 have key: ∀b,b<w4.heap.size→W.heap.size+4≤b→vM.ownBlock≠some b→(w5.setCell ⟨W.heap.size+3,0,none⟩ (.slice (some ⟨g,0,none⟩) (ms.length+1) cap)).heap[b]? =w4.heap[b]? :=fun b hk h1 h2=>by
  rw[g7.block b (Nat.lt_of_lt_of_le hk hgr.size) (by intro e;injection e with e;omega)]
  exact hgr.block b hk (fun e=>h2 e.symm)
 have hsz:w4.heap.size≤(w5.setCell ⟨W.heap.size+3,0,none⟩ (.slice (some ⟨g,0,none⟩) (ms.length+1) cap)).heap.size:=Nat.le_trans hgr.size g7.size
 refine⟨(keep _ (by omega) (by omega) (by omega)).trans hI.c2,(keep _ (by omega) (by omega) (by omega)).trans hI.c3,(keep _ (by omega) (by omega) (by omega)).trans hI.c4,?_,?_,?_,?_,lt,Nat.le_trans s4 hsz,(keep rb hr.lt (by omega) (by omega)).trans hr⟩
 ·have:Blk w5 (W.heap.size+3) 174 [vM]:=hI.c5.grown hgr (fun e=>by have:=lL _ e.symm;omega)
  exact this.setCell 0 _
 ·rw[List.length_append,show zeZ (zs++[⟨t,c0,c1,c2,c3,c4⟩])=zeZ zs++[.string t,c0,c1,c2,c3,c4]by simp[zeZ,encM]]
  exact hown.kept g7 (.inr (by simp[Value.ownBlock];omega))
 ·refine FlatM.snoc ht ?_ ?_
  ·refine RepS.keeps (S:=fun b=>wr.heap.size≤b) ⟨hsz,fun b h1 h3=> ?_⟩ (fun b h1 h3=> ?_) _ _ hx
   ·replace h1:wr.heap.size≤b:=h1
    have hs:=h.sz
    exact key b h3 (by omega) (fun e=>by have:=(h.own.lt b e).2;omega)
   ·replace h1:wr.heap.size≤b:=h1
    have hs:=h.sz
    refine⟨by omega,fun e=> ?_⟩
    have e:g=b:=by simpa[Value.ownBlock]using e
    rcases hat with h'|h'
    ·have:=(h.own.lt g h').2;omega
    ·omega
  ·refine hI.flat.keeps ⟨hsz,fun b h1 h3=> ?_⟩ (fun b h1 h3=> ?_)
   ·exact key b h3 h1.1 h1.2
   ·refine⟨h1.1,fun e=> ?_⟩
    have e:g=b:=by simpa[Value.ownBlock]using e
    rcases hat with h'|h'
    ·exact h1.2 (by rw[h',e])
    ·omega
 ·refine⟨?_,?_,?_,Nat.le_trans hI.gr.size hsz,fun k hk hne=> ?_⟩
  ·exact(g7.os.trans hgr.os).trans hI.gr.os
  ·exact(g7.tape.trans hgr.tape).trans hI.gr.tape
  ·exact(g7.output.trans hgr.output).trans hI.gr.output
  ·exact(keep k (Nat.lt_of_lt_of_le hk hI.gr.size) (by omega) (by omega)).trans (hI.gr.block k hk hne)
theorem own_form6 {w:World} {base n:Nat} {e:TypeId} {v:Value} {xs:List Value} (h:w.ownsRow base e 6 v n xs):v= .slice none 0 0∨ ∃g cap,v= .slice (some ⟨g,0,none⟩) n cap:=by
 rcases h.2 with⟨h,_⟩|⟨g,cap,cur,h,_⟩
 ·exact .inl h
 ·exact .inr ⟨g,cap,h⟩
theorem infoMp:(Tryz.prog.info? 133).map (fun i=>(i.zero,i.size,i.bytes))=some (some (.agg #[.string ⟨#[]⟩,.int .i64 0,.int .i64 0,.string ⟨#[]⟩,.slice none 0 0,.slice none 0 0]),6,96):=by kernel_rfl
def MembOk (W:World) (rb:Nat) (s:ByteArray) (dep:Int) (ms:List (ByteArray×J)) (t:ByteArray) (x:J) (p:Nat) (n:Int) (e:Ending) (w':World):Prop:=
 ∃zs vM q,e= .returned (.tuple #[])∧q≤s.size∧zaW (strL s) q=p∧OInv W w' rb s dep (ms++[(t,x)]) zs vM (q:Nat) n
theorem memb_ok_Nil (W wr:World) (rb:Nat) (s:ByteArray) (dep:Int) (hd:0≤dep∧dep≤9) (ms:List (ByteArray×J)) (zs:List MC) (vM:Value) (hvs:ms.length≤10000) (i n m:Int) (j k:Nat) (t:ByteArray) (ht:t.size≤9223372036854775807) (x:J) (p:Nat) (h:OInv W wr rb s dep ms zs vM i n) (hvL:vM= .slice none 0 0)
  (hnm:Calls Tryz.prog 194 #[.pointer (some ⟨rb,0,none⟩),vM] wr (fun e w'=>e= .returned (.string t)∧zcg wr w' rb s (j:Nat) n))
  (hbl: ∀w,Rdr w rb s (j:Nat) n→Calls Tryz.prog 129 #[.pointer (some ⟨rb,0,none⟩)] w (fun e w'=>e= .returned (.tuple #[])∧zcg w w' rb s (k:Nat) n))
  (hsg: ∀w,Rdr w rb s (k:Nat) n→Calls Tryz.prog 188 #[.pointer (some ⟨rb,0,none⟩),.int .u8 58] w (fun e w'=>e= .returned (.tuple #[])∧zcg w w' rb s (k+1:Nat) n))
  (hv: ∀w,Rdr w rb s (k+1:Nat) n→wr.grownBy w (some rb)→Calls Tryz.prog 128 #[.pointer (some ⟨rb,0,none⟩),.int .i64 (dep+1)] w (fun e w'=> ∃v q,e= .returned v∧RepS w' (fun b=>w.heap.size≤b) x v∧q≤s.size∧zaW (strL s) q=p∧zcg w w' rb s (q:Nat) m)):
  Calls Tryz.prog 193 #[.pointer (some ⟨W.heap.size,0,none⟩),.pointer (some ⟨W.heap.size+3,0,none⟩),.pointer (some ⟨W.heap.size+1,0,none⟩)] wr (MembOk W rb s dep ms t x p m):=by
 subst hvL
 obtain rfl:ms=[]:=by rcases h.own.2 with⟨_,h0⟩|⟨_,_,_,h0,_⟩<;>first|exact List.eq_nil_of_length_eq_zero h0|(simp at h0)
 obtain rfl:zs=[]:=List.eq_nil_of_length_eq_zero (by have:=h.flat.length;simpa using this)
 have HI0:=Lib.hid h
 have HNM:=Lib.hid hnm
 have HBL:=Lib.hid hbl
 have HSG:=Lib.hid hsg
 have HV0:=Lib.hid hv
 have k2:wr.cell? ⟨W.heap.size,0,none⟩=some (.pointer (some ⟨rb,0,none⟩)):=h.c2.cell 0
 have k3:wr.cell? ⟨W.heap.size+1,0,none⟩=some (.int .i64 dep):=h.c3.cell 0
 have k5:wr.cell? ⟨W.heap.size+3,0,none⟩=some (.slice none 0 0):=h.c5.cell 0
 have hlt:=h.lt
 have hsz:=h.sz
 obtain⟨d0,d1⟩:=hd
 have hw:IntKind.i64.wrap (dep+1)=dep+1:=by rw[IntKind.wrap_i64];omega
 have HT:=Lib.hid ht
 obtain⟨iM,hM,hM0,hM1,hM2⟩:=info_parts infoMp
 clear h hnm hbl hsg hv
 go_enter Tryz.func193,Tryz.ntmps193
 go_wp2_with(first|(go_at_call 194;(with_reducible refine HNM.out.mono ?_);rintro e w1 ⟨rfl,hg1,hr1⟩;have HG1:=Lib.hid hg1;have HR1:=Lib.hid hr1;have a2:w1.cell? ⟨W.heap.size,0,none⟩=some (.pointer (some ⟨rb,0,none⟩)):=zaZ k2 hg1 (by intro e;injection e with e<;>omega);clear hg1 hr1)|(go_at_call 129;(with_reducible refine(HBL.out _ HR1.out).mono ?_);rintro e w2 ⟨rfl,hg2,hr2⟩;have HG2:=Lib.hid (HG1.out.trans hg2);have HR2:=Lib.hid hr2;have b2:w2.cell? ⟨W.heap.size,0,none⟩=some (.pointer (some ⟨rb,0,none⟩)):=zaZ k2 HG2.out (by intro e;injection e with e<;>omega);clear hg2 hr2)|(go_at_call 188;(with_reducible refine(HSG.out _ HR2.out).mono ?_);rintro e w3 ⟨rfl,hg3,hr3⟩;have HG3:=Lib.hid (HG2.out.trans hg3);have HR3:=Lib.hid hr3;clear hg3 hr3)|fail)
 have HI:=Lib.hid (HI0.out.moved HG3.out HR3.out)
 have HV:=Lib.hid (fun w hr hg=>HV0.out w hr (HG3.out.trans hg))
 have l2:=zaZ k2 HG3.out (by intro e;injection e with e<;>omega)
 have l3:=zaZ k3 HG3.out (by intro e;injection e with e<;>omega)
 have l5:=zaZ k5 HG3.out (by intro e;injection e with e<;>omega)
 have hsz3:W.heap.size+4≤w3.heap.size:=HI.out.sz
 clear HI0 HV0 HNM HBL HSG HG1 HR1 HG2 HR2 HG3 HR3 a2 b2 k2 k3 k5 hsz
 refine wp_region_held_drew (S:=fun X=>X.cell? ⟨W.heap.size,0,none⟩=some (.pointer (some ⟨rb,0,none⟩))∧X.cell? ⟨W.heap.size+1,0,none⟩=some (.int .i64 dep)) (by kernel_rfl) ⟨l2,l3⟩ (fun hHeld=> ?_)
 refine wpAnyH_take (i:=1) (v:= ?v1q18) rfl (by kernel_rfl) (by kernel_rfl) (by kernel_rfl) (fun _ _ _ h=>h) (Or.inl ⟨by rfl,?hy1q18⟩) (by assumption) ?rest1q18
 case hy1q18=>(intro w hSw;(try obtain⟨hSa,hSb⟩:=hSw);first|(go_simp;done)|(go_simp;with_reducible rfl))
 try simp only[rgS]
 refine wpAnyH_take (i:=2) (v:= ?v2q19) rfl (by kernel_rfl) (by kernel_rfl) (by kernel_rfl) (fun _ _ _ h=>h) (Or.inl ⟨by rfl,?hy2q19⟩) (by assumption) ?rest2q19
 case hy2q19=>(intro w hSw;(try obtain⟨hSa,hSb⟩:=hSw);first|(go_simp;done)|(go_simp;with_reducible rfl))
 try simp only[rgS]
 refine wpAnyH_take (i:=3) (v:= ?v3q20) rfl (by kernel_rfl) (by kernel_rfl) (by kernel_rfl) (fun _ _ _ h=>h) (Or.inl ⟨by rfl,?hy3q20⟩) (by assumption) ?rest3q20
 case hy3q20=>(intro w hSw;(try obtain⟨hSa,hSb⟩:=hSw);first|(go_simp;done)|(go_simp;with_reducible rfl))
 try simp only[rgS]
 refine wpAnyH_take (i:=4) (v:= ?v4q21) rfl (by kernel_rfl) (by kernel_rfl) (by kernel_rfl) (fun _ _ _ h=>h) (Or.inl ⟨by rfl,?hy4q21⟩) (by assumption) ?rest4q21
 case hy4q21=>(intro w hSw;(try obtain⟨hSa,hSb⟩:=hSw);first|(go_simp;done)|(go_simp;with_reducible rfl))
 try simp only[rgS]
 refine wpAnyH_ready (rs:=[0,5]) (by kernel_rfl) (by simp) ?_
 refine AllReadyH.cons rfl (fun K hK=> ?_) ?_
 ·skip
  go_simp
  refine hK.out _ _ ⟨l2,l3⟩ (fun hH22=> ?_)
  clear hK K
  try simp only[rgS]
  refine wpAnyH_ready (rs:=[5]) (by kernel_rfl) (by simp) ?_
  refine AllReadyH.cons rfl (fun K hK=> ?_) AllReadyH.nil
  go_simp
  go_at_call 128
  (with_reducible refine(HV.out _ (Blk.drew HI.out.rdr) (zaJ (zaY w3 _))).mono ?_)
  rintro e w4 ⟨v,q,rfl,hrep,hq,hsk,hg3,hr3⟩
  obtain⟨vk,A,c9,rfl, -,⟨K9,d9,rfl, -, -⟩, -, -⟩:=hrep.open
  obtain⟨x0,hx0⟩: ∃a,a=x.kind:=⟨_,rfl⟩
  obtain⟨x1,hx1⟩: ∃a,a=x.n:=⟨_,rfl⟩
  obtain⟨x2,hx2⟩: ∃a,a=x.s:=⟨_,rfl⟩
  obtain⟨x3,hx3⟩: ∃a,a=x.l.length:=⟨_,rfl⟩
  obtain⟨x4,hx4⟩: ∃a,a=x.k.length:=⟨_,rfl⟩
  rw[←hx0,←hx1,←hx2,←hx3,←hx4]at hrep⊢
  clear hx0 hx1 hx2 hx3 hx4
  have HG3:=Lib.hid ((zaJ (zaY w3 _)).trans hg3)
  have HX:Hid (RepS w4 (fun b=>w3.heap.size≤b) x (.agg #[.int .i64 x0,.int .i64 x1,.string x2,.slice A x3 c9,.slice K9 x4 d9])):=Lib.hid (RepS.keeps (Keeps.refl _ w4) (fun b (h:_≤b) _=>h) _ _ hrep)
  have HQ:=Lib.hid (And.intro hq hsk)
  have HR3:=Lib.hid hr3
  clear hrep hq hsk hg3 hr3
  have m2:w4.cell? ⟨W.heap.size,0,none⟩=some (.pointer (some ⟨rb,0,none⟩)):=zaZ l2 HG3.out (by intro e;injection e with e<;>omega)
  have m3:w4.cell? ⟨W.heap.size+1,0,none⟩=some (.int .i64 dep):=zaZ l3 HG3.out (by intro e;injection e with e<;>omega)
  have m5:w4.cell? ⟨W.heap.size+3,0,none⟩=some (.slice none 0 0):=zaZ l5 HG3.out (by intro e;injection e with e<;>omega)
  refine hK.out _ _ ⟨m2,m3⟩ (fun hH23=> ?_)
  clear hK K
  try simp only[rgS]
  refine wpAnyH_take (i:=6) (v:= ?v6q24) rfl (by kernel_rfl) (by kernel_rfl) (by kernel_rfl) (fun _ _ _ h=>h) (Or.inl ⟨by rfl,?hy6q24⟩) (by assumption) ?rest6q24
  case hy6q24=>(intro w hSw;(try obtain⟨hSa,hSb⟩:=hSw);first|(go_simp;done)|(go_simp;with_reducible rfl))
  try simp only[rgS]
  refine wpAnyH_ready (rs:=[7]) (by kernel_rfl) (by simp) ?_
  refine AllReadyH.cons rfl (fun K hK=> ?_) AllReadyH.nil
  go_simp
  have hga:=World.grownBy_alloc w4 (.cells #[.string t,.int .i64 x0,.int .i64 x1,.string x2,.slice A x3 c9,.slice K9 x4 d9] 133) (some rb)
  have HGA:=Lib.hid (HG3.out.trans hga)
  have n2:(w4.alloc (.cells #[.string t,.int .i64 x0,.int .i64 x1,.string x2,.slice A x3 c9,.slice K9 x4 d9] 133)).cell? ⟨W.heap.size,0,none⟩=some (.pointer (some ⟨rb,0,none⟩)):=zaZ m2 hga (by intro e;injection e with e<;>omega)
  have n3:(w4.alloc (.cells #[.string t,.int .i64 x0,.int .i64 x1,.string x2,.slice A x3 c9,.slice K9 x4 d9] 133)).cell? ⟨W.heap.size+1,0,none⟩=some (.int .i64 dep):=zaZ m3 hga (by intro e;injection e with e<;>omega)
  have n5:(w4.alloc (.cells #[.string t,.int .i64 x0,.int .i64 x1,.string x2,.slice A x3 c9,.slice K9 x4 d9] 133)).cell? ⟨W.heap.size+3,0,none⟩=some (.slice none 0 0):=zaZ m5 hga (by intro e;injection e with e<;>omega)
  refine hK.out _ _ ⟨n2,n3⟩ (fun hH25=> ?_)
  clear hK K
  try simp only[rgS]
  refine wpAnyH_ready (rs:=[8]) (by kernel_rfl) (by simp) ?_
  refine AllReadyH.cons rfl (fun K hK=> ?_) AllReadyH.nil
  have HM:=Lib.hid (HI.out.moved HGA.out (Blk.grownN HR3.out (World.grownBy_alloc w4 (.cells #[.string t,.int .i64 x0,.int .i64 x1,.string x2,.slice A x3 c9,.slice K9 x4 d9] 133) none)))
  have hs4:W.heap.size+4≤(w4.alloc (.cells #[.string t,.int .i64 x0,.int .i64 x1,.string x2,.slice A x3 c9,.slice K9 x4 d9] 133)).heap.size:=HM.out.sz
  refine step_append_lies _ (by rfl) _ _ _ (by rfl) (W.heap.size+4) 133 iM (.agg #[.string ⟨#[]⟩,.int .i64 0,.int .i64 0,.string ⟨#[]⟩,.slice none 0 0,.slice none 0 0]) 6 96 Tryz.underlying174 hM hM0 hM1 hM2 rfl (by omega) (.slice none 0 0) 0 [] (by rfl) HM.out.own ⟨w4.heap.size,0,none⟩ 1 1 [.string t,.int .i64 x0,.int .i64 x1,.string x2,.slice A x3 c9,.slice K9 x4 d9] (by rfl) (by rfl) (World.news_of_block (cs:= #[.string t,.int .i64 x0,.int .i64 x1,.string x2,.slice A x3 c9,.slice K9 x4 d9]) (t:=133) (fr:=(0,0)) (heap_alloc_new w4 (.cells #[.string t,.int .i64 x0,.int .i64 x1,.string x2,.slice A x3 c9,.slice K9 x4 d9] 133))) (by simp[Value.oneCell']) (by omega) (by unfold maxLen;omega) (by omega) (by omega) (w4.alloc (.cells #[.string t,.int .i64 x0,.int .i64 x1,.string x2,.slice A x3 c9,.slice K9 x4 d9] 133)).heap.size rfl ?_
  intro g cap w5 hown hgrow hat hlt5
  have hgB:W.heap.size+4≤g:=(hown.lt g rfl).1
  have HADD:=Lib.hid (HI.out.add HGA.out (Blk.grownN HR3.out (World.grownBy_alloc w4 (.cells #[.string t,.int .i64 x0,.int .i64 x1,.string x2,.slice A x3 c9,.slice K9 x4 d9] 133) none)) HT.out (RepS.keeps (Keeps.grown (World.grownBy_alloc w4 (.cells #[.string t,.int .i64 x0,.int .i64 x1,.string x2,.slice A x3 c9,.slice K9 x4 d9] 133) none) (fun b _ e=>by cases e)) (fun _ h _=>h) _ _ HX.out) hgrow hown (hat.imp_right (fun h=>Nat.le_of_eq h.symm)))
  have hno: ∀k,k<W.heap.size+4→some k≠(.slice none 0 0:Value).ownBlock:=fun k hk e=>by have:=(HI.out.own.lt k e.symm).1;omega
  have o2:=zaZ n2 hgrow (hno W.heap.size (by omega))
  have o3:=zaZ n3 hgrow (hno (W.heap.size+1) (by omega))
  have o5:=zaZ n5 hgrow (hno (W.heap.size+3) (by omega))
  have oz:w5.frozen? ⟨W.heap.size+3,0,none⟩=false:=(HM.out.c5.grown hgrow (hno _ (by omega))).frozen 0
  clear hown hgrow hat hlt5 hno
  refine hK.out _ _ ⟨o2,o3⟩ (fun hH26=> ?_)
  clear hK K
  try simp only[rgS]
  refine wpAnyH_ready (rs:=[9]) (by kernel_rfl) (by simp) ?_
  refine AllReadyH.cons rfl (fun K hK=> ?_) AllReadyH.nil
  go_simp
  refine hK.out _ _ ⟨zaZ o2 (zaV w5 (W.heap.size+3) 0 _) (by intro e;injection e with e<;>omega),zaZ o3 (zaV w5 (W.heap.size+3) 0 _) (by intro e;injection e with e<;>omega)⟩ (fun hHz=> ?_)
  clear hK K
  refine wpAnyH_done (by kernel_rfl) ?_ _
  go_end0
  exact⟨_,_,q,rfl,HQ.out.1,HQ.out.2,HADD.out⟩
 refine AllReadyH.cons rfl (fun K hK=> ?_) AllReadyH.nil
 go_simp
 go_at_call 128
 (with_reducible refine(HV.out _ (Blk.drew HI.out.rdr) (zaJ (zaY w3 _))).mono ?_)
 rintro e w4 ⟨v,q,rfl,hrep,hq,hsk,hg3,hr3⟩
 obtain⟨vk,A,c9,rfl, -,⟨K9,d9,rfl, -, -⟩, -, -⟩:=hrep.open
 obtain⟨x0,hx0⟩: ∃a,a=x.kind:=⟨_,rfl⟩
 obtain⟨x1,hx1⟩: ∃a,a=x.n:=⟨_,rfl⟩
 obtain⟨x2,hx2⟩: ∃a,a=x.s:=⟨_,rfl⟩
 obtain⟨x3,hx3⟩: ∃a,a=x.l.length:=⟨_,rfl⟩
 obtain⟨x4,hx4⟩: ∃a,a=x.k.length:=⟨_,rfl⟩
 rw[←hx0,←hx1,←hx2,←hx3,←hx4]at hrep⊢
 clear hx0 hx1 hx2 hx3 hx4
 have HG3:=Lib.hid ((zaJ (zaY w3 _)).trans hg3)
 have HX:Hid (RepS w4 (fun b=>w3.heap.size≤b) x (.agg #[.int .i64 x0,.int .i64 x1,.string x2,.slice A x3 c9,.slice K9 x4 d9])):=Lib.hid (RepS.keeps (Keeps.refl _ w4) (fun b (h:_≤b) _=>h) _ _ hrep)
 have HQ:=Lib.hid (And.intro hq hsk)
 have HR3:=Lib.hid hr3
 clear hrep hq hsk hg3 hr3
 have m2:w4.cell? ⟨W.heap.size,0,none⟩=some (.pointer (some ⟨rb,0,none⟩)):=zaZ l2 HG3.out (by intro e;injection e with e<;>omega)
 have m3:w4.cell? ⟨W.heap.size+1,0,none⟩=some (.int .i64 dep):=zaZ l3 HG3.out (by intro e;injection e with e<;>omega)
 have m5:w4.cell? ⟨W.heap.size+3,0,none⟩=some (.slice none 0 0):=zaZ l5 HG3.out (by intro e;injection e with e<;>omega)
 refine hK.out _ _ ⟨m2,m3⟩ (fun hH27=> ?_)
 clear hK K
 try simp only[rgS]
 refine wpAnyH_take (i:=6) (v:= ?v6q28) rfl (by kernel_rfl) (by kernel_rfl) (by kernel_rfl) (fun _ _ _ h=>h) (Or.inl ⟨by rfl,?hy6q28⟩) (by assumption) ?rest6q28
 case hy6q28=>(intro w hSw;(try obtain⟨hSa,hSb⟩:=hSw);first|(go_simp;done)|(go_simp;with_reducible rfl))
 try simp only[rgS]
 refine wpAnyH_ready (rs:=[0,7]) (by kernel_rfl) (by simp) ?_
 refine AllReadyH.cons rfl (fun K hK=> ?_) ?_
 ·skip
  go_simp
  refine hK.out _ _ ⟨m2,m3⟩ (fun hH29=> ?_)
  clear hK K
  try simp only[rgS]
  refine wpAnyH_ready (rs:=[7]) (by kernel_rfl) (by simp) ?_
  refine AllReadyH.cons rfl (fun K hK=> ?_) AllReadyH.nil
  go_simp
  have hga:=World.grownBy_alloc w4 (.cells #[.string t,.int .i64 x0,.int .i64 x1,.string x2,.slice A x3 c9,.slice K9 x4 d9] 133) (some rb)
  have HGA:=Lib.hid (HG3.out.trans hga)
  have n2:(w4.alloc (.cells #[.string t,.int .i64 x0,.int .i64 x1,.string x2,.slice A x3 c9,.slice K9 x4 d9] 133)).cell? ⟨W.heap.size,0,none⟩=some (.pointer (some ⟨rb,0,none⟩)):=zaZ m2 hga (by intro e;injection e with e<;>omega)
  have n3:(w4.alloc (.cells #[.string t,.int .i64 x0,.int .i64 x1,.string x2,.slice A x3 c9,.slice K9 x4 d9] 133)).cell? ⟨W.heap.size+1,0,none⟩=some (.int .i64 dep):=zaZ m3 hga (by intro e;injection e with e<;>omega)
  have n5:(w4.alloc (.cells #[.string t,.int .i64 x0,.int .i64 x1,.string x2,.slice A x3 c9,.slice K9 x4 d9] 133)).cell? ⟨W.heap.size+3,0,none⟩=some (.slice none 0 0):=zaZ m5 hga (by intro e;injection e with e<;>omega)
  refine hK.out _ _ ⟨n2,n3⟩ (fun hH30=> ?_)
  clear hK K
  try simp only[rgS]
  refine wpAnyH_ready (rs:=[8]) (by kernel_rfl) (by simp) ?_
  refine AllReadyH.cons rfl (fun K hK=> ?_) AllReadyH.nil
  have HM:=Lib.hid (HI.out.moved HGA.out (Blk.grownN HR3.out (World.grownBy_alloc w4 (.cells #[.string t,.int .i64 x0,.int .i64 x1,.string x2,.slice A x3 c9,.slice K9 x4 d9] 133) none)))
  have hs4:W.heap.size+4≤(w4.alloc (.cells #[.string t,.int .i64 x0,.int .i64 x1,.string x2,.slice A x3 c9,.slice K9 x4 d9] 133)).heap.size:=HM.out.sz
  refine step_append_lies _ (by rfl) _ _ _ (by rfl) (W.heap.size+4) 133 iM (.agg #[.string ⟨#[]⟩,.int .i64 0,.int .i64 0,.string ⟨#[]⟩,.slice none 0 0,.slice none 0 0]) 6 96 Tryz.underlying174 hM hM0 hM1 hM2 rfl (by omega) (.slice none 0 0) 0 [] (by rfl) HM.out.own ⟨w4.heap.size,0,none⟩ 1 1 [.string t,.int .i64 x0,.int .i64 x1,.string x2,.slice A x3 c9,.slice K9 x4 d9] (by rfl) (by rfl) (World.news_of_block (cs:= #[.string t,.int .i64 x0,.int .i64 x1,.string x2,.slice A x3 c9,.slice K9 x4 d9]) (t:=133) (fr:=(0,0)) (heap_alloc_new w4 (.cells #[.string t,.int .i64 x0,.int .i64 x1,.string x2,.slice A x3 c9,.slice K9 x4 d9] 133))) (by simp[Value.oneCell']) (by omega) (by unfold maxLen;omega) (by omega) (by omega) (w4.alloc (.cells #[.string t,.int .i64 x0,.int .i64 x1,.string x2,.slice A x3 c9,.slice K9 x4 d9] 133)).heap.size rfl ?_
  intro g cap w5 hown hgrow hat hlt5
  have hgB:W.heap.size+4≤g:=(hown.lt g rfl).1
  have HADD:=Lib.hid (HI.out.add HGA.out (Blk.grownN HR3.out (World.grownBy_alloc w4 (.cells #[.string t,.int .i64 x0,.int .i64 x1,.string x2,.slice A x3 c9,.slice K9 x4 d9] 133) none)) HT.out (RepS.keeps (Keeps.grown (World.grownBy_alloc w4 (.cells #[.string t,.int .i64 x0,.int .i64 x1,.string x2,.slice A x3 c9,.slice K9 x4 d9] 133) none) (fun b _ e=>by cases e)) (fun _ h _=>h) _ _ HX.out) hgrow hown (hat.imp_right (fun h=>Nat.le_of_eq h.symm)))
  have hno: ∀k,k<W.heap.size+4→some k≠(.slice none 0 0:Value).ownBlock:=fun k hk e=>by have:=(HI.out.own.lt k e.symm).1;omega
  have o2:=zaZ n2 hgrow (hno W.heap.size (by omega))
  have o3:=zaZ n3 hgrow (hno (W.heap.size+1) (by omega))
  have o5:=zaZ n5 hgrow (hno (W.heap.size+3) (by omega))
  have oz:w5.frozen? ⟨W.heap.size+3,0,none⟩=false:=(HM.out.c5.grown hgrow (hno _ (by omega))).frozen 0
  clear hown hgrow hat hlt5 hno
  refine hK.out _ _ ⟨o2,o3⟩ (fun hH31=> ?_)
  clear hK K
  try simp only[rgS]
  refine wpAnyH_ready (rs:=[9]) (by kernel_rfl) (by simp) ?_
  refine AllReadyH.cons rfl (fun K hK=> ?_) AllReadyH.nil
  go_simp
  refine hK.out _ _ ⟨zaZ o2 (zaV w5 (W.heap.size+3) 0 _) (by intro e;injection e with e<;>omega),zaZ o3 (zaV w5 (W.heap.size+3) 0 _) (by intro e;injection e with e<;>omega)⟩ (fun hHz=> ?_)
  clear hK K
  refine wpAnyH_done (by kernel_rfl) ?_ _
  go_end0
  exact⟨_,_,q,rfl,HQ.out.1,HQ.out.2,HADD.out⟩
 refine AllReadyH.cons rfl (fun K hK=> ?_) AllReadyH.nil
 go_simp
 have hga:=World.grownBy_alloc w4 (.cells #[.string t,.int .i64 x0,.int .i64 x1,.string x2,.slice A x3 c9,.slice K9 x4 d9] 133) (some rb)
 have HGA:=Lib.hid (HG3.out.trans hga)
 have n2:(w4.alloc (.cells #[.string t,.int .i64 x0,.int .i64 x1,.string x2,.slice A x3 c9,.slice K9 x4 d9] 133)).cell? ⟨W.heap.size,0,none⟩=some (.pointer (some ⟨rb,0,none⟩)):=zaZ m2 hga (by intro e;injection e with e<;>omega)
 have n3:(w4.alloc (.cells #[.string t,.int .i64 x0,.int .i64 x1,.string x2,.slice A x3 c9,.slice K9 x4 d9] 133)).cell? ⟨W.heap.size+1,0,none⟩=some (.int .i64 dep):=zaZ m3 hga (by intro e;injection e with e<;>omega)
 have n5:(w4.alloc (.cells #[.string t,.int .i64 x0,.int .i64 x1,.string x2,.slice A x3 c9,.slice K9 x4 d9] 133)).cell? ⟨W.heap.size+3,0,none⟩=some (.slice none 0 0):=zaZ m5 hga (by intro e;injection e with e<;>omega)
 refine hK.out _ _ ⟨n2,n3⟩ (fun hH32=> ?_)
 clear hK K
 try simp only[rgS]
 refine wpAnyH_ready (rs:=[0]) (by kernel_rfl) (by simp) ?_
 refine AllReadyH.cons rfl (fun K hK=> ?_) AllReadyH.nil
 go_simp
 refine hK.out _ _ ⟨n2,n3⟩ (fun hH33=> ?_)
 clear hK K
 try simp only[rgS]
 refine wpAnyH_ready (rs:=[8]) (by kernel_rfl) (by simp) ?_
 refine AllReadyH.cons rfl (fun K hK=> ?_) AllReadyH.nil
 have HM:=Lib.hid (HI.out.moved HGA.out (Blk.grownN HR3.out (World.grownBy_alloc w4 (.cells #[.string t,.int .i64 x0,.int .i64 x1,.string x2,.slice A x3 c9,.slice K9 x4 d9] 133) none)))
 have hs4:W.heap.size+4≤(w4.alloc (.cells #[.string t,.int .i64 x0,.int .i64 x1,.string x2,.slice A x3 c9,.slice K9 x4 d9] 133)).heap.size:=HM.out.sz
 refine step_append_lies _ (by rfl) _ _ _ (by rfl) (W.heap.size+4) 133 iM (.agg #[.string ⟨#[]⟩,.int .i64 0,.int .i64 0,.string ⟨#[]⟩,.slice none 0 0,.slice none 0 0]) 6 96 Tryz.underlying174 hM hM0 hM1 hM2 rfl (by omega) (.slice none 0 0) 0 [] (by rfl) HM.out.own ⟨w4.heap.size,0,none⟩ 1 1 [.string t,.int .i64 x0,.int .i64 x1,.string x2,.slice A x3 c9,.slice K9 x4 d9] (by rfl) (by rfl) (World.news_of_block (cs:= #[.string t,.int .i64 x0,.int .i64 x1,.string x2,.slice A x3 c9,.slice K9 x4 d9]) (t:=133) (fr:=(0,0)) (heap_alloc_new w4 (.cells #[.string t,.int .i64 x0,.int .i64 x1,.string x2,.slice A x3 c9,.slice K9 x4 d9] 133))) (by simp[Value.oneCell']) (by omega) (by unfold maxLen;omega) (by omega) (by omega) (w4.alloc (.cells #[.string t,.int .i64 x0,.int .i64 x1,.string x2,.slice A x3 c9,.slice K9 x4 d9] 133)).heap.size rfl ?_
 intro g cap w5 hown hgrow hat hlt5
 have hgB:W.heap.size+4≤g:=(hown.lt g rfl).1
 have HADD:=Lib.hid (HI.out.add HGA.out (Blk.grownN HR3.out (World.grownBy_alloc w4 (.cells #[.string t,.int .i64 x0,.int .i64 x1,.string x2,.slice A x3 c9,.slice K9 x4 d9] 133) none)) HT.out (RepS.keeps (Keeps.grown (World.grownBy_alloc w4 (.cells #[.string t,.int .i64 x0,.int .i64 x1,.string x2,.slice A x3 c9,.slice K9 x4 d9] 133) none) (fun b _ e=>by cases e)) (fun _ h _=>h) _ _ HX.out) hgrow hown (hat.imp_right (fun h=>Nat.le_of_eq h.symm)))
 have hno: ∀k,k<W.heap.size+4→some k≠(.slice none 0 0:Value).ownBlock:=fun k hk e=>by have:=(HI.out.own.lt k e.symm).1;omega
 have o2:=zaZ n2 hgrow (hno W.heap.size (by omega))
 have o3:=zaZ n3 hgrow (hno (W.heap.size+1) (by omega))
 have o5:=zaZ n5 hgrow (hno (W.heap.size+3) (by omega))
 have oz:w5.frozen? ⟨W.heap.size+3,0,none⟩=false:=(HM.out.c5.grown hgrow (hno _ (by omega))).frozen 0
 clear hown hgrow hat hlt5 hno
 refine hK.out _ _ ⟨o2,o3⟩ (fun hH34=> ?_)
 clear hK K
 try simp only[rgS]
 refine wpAnyH_ready (rs:=[9]) (by kernel_rfl) (by simp) ?_
 refine AllReadyH.cons rfl (fun K hK=> ?_) AllReadyH.nil
 go_simp
 refine hK.out _ _ ⟨zaZ o2 (zaV w5 (W.heap.size+3) 0 _) (by intro e;injection e with e<;>omega),zaZ o3 (zaV w5 (W.heap.size+3) 0 _) (by intro e;injection e with e<;>omega)⟩ (fun hHz=> ?_)
 clear hK K
 refine wpAnyH_done (by kernel_rfl) ?_ _
 go_end0
 exact⟨_,_,q,rfl,HQ.out.1,HQ.out.2,HADD.out⟩
end Go.Proofs.YtceddodfddlncaaGreatDoor
