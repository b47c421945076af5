
import Derived.Sort.LotA
import Derived.Shelf.SlicesQ.Reverse
import Derived.Shelf.SlSortFuncK.ComposeK
import Derived.Test.YtceddodfddlncaaGreatDoorJb37
set_option maxRecDepth 100000
set_option maxHeartbeats 16000000
set_option linter.all false
namespace Go.Proofs.YtceddodfddlncaaGreatDoor
open Go Go.RowKit Go.Sort
theorem rises_of {d:Array MT} {r:List (ByteArray×J)} (hnm:r.map Prod.fst=d.toList.map MT.nm) (hn:(r.map Prod.fst).Nodup) (hs:SortedIn (ltOf cmpM) 0 d.size d):Rises r:=by
 unfold Rises
 have hl:r.length=d.size:=by have:=congrArg List.length hnm;simpa using this
 have e: ∀k (hk:k<r.length),r[k].1=(d[k]!).nm:=fun k hk=>by
  have h1:(r.map Prod.fst)[k]? =(d.toList.map MT.nm)[k]? :=by rw[hnm]
  rw[List.getElem?_map,List.getElem?_map,List.getElem?_eq_getElem hk,List.getElem?_eq_getElem (by rw[Array.length_toList];omega)]at h1
  simp only[Option.map_some,Option.some.injEq]at h1
  rw[h1,getElem!_pos d k (by omega)]
  rfl
 rw[List.pairwise_iff_getElem]
 intro i j hi hj hij
 have h1:=hs i j (Nat.zero_le _) hij (by omega)
 rw[ltOf_cmpM]at h1
 have hne:=List.pairwise_iff_getElem.1 hn i j (by simpa using hi) (by simpa using hj) hij
 rw[List.getElem_map,List.getElem_map,e i hi,e j hj]at hne
 rw[e i hi,e j hj]
 exact zlx (fun h=>hne h.symm) h1
def zkl (n:Nat):Prop:= ∀(d:Array MT) (blk cap:Nat) (w:World),d.size=n→HoldsK encT 6 w blk 0 d→blk<w.heap.size→
 Calls Tryz.prog 151 #[.slice (some ⟨blk,0,none⟩) n cap,.int .i64 n,.func (.func 117) #[] #[]] w fun e w'=>
  e= .returned (.tuple #[])∧ ∃m os d',w'=sortWorldK encT 6 w blk 0 m d' os∧PermIn 0 n d d'∧SortedIn (ltOf cmpM) 0 n d'
theorem zmp (n:Nat) (hA:zkl n) (d:Array MT) (blk cap:Nat) (w:World) (hn:d.size=n) (hH:HoldsK encT 6 w blk 0 d) (hblk:blk<w.heap.size):
  Calls Tryz.prog 116 #[.slice (some ⟨blk,0,none⟩) n cap,.func (.func 117) #[] #[]] w fun e w'=>
   e= .returned (.tuple #[])∧ ∃m os d',w'=sortWorldK encT 6 w blk 0 m d' os∧PermIn 0 n d d'∧SortedIn (ltOf cmpM) 0 n d':=by
 have HA:=Lib.hid (hA d blk cap w hn hH hblk)
 clear hH hA
 go_enter Tryz.func116,Tryz.ntmps116
 go_wp2_with(go_at_call 151;refine HA.out.mono ?_;rintro e w1 ⟨rfl,m,os,d',rfl,hp,hs⟩)
 go_end0
 exact⟨rfl,m,os,d',rfl,hp,hs⟩
theorem holds_of_own {w:World} {base g cap n:Nat} {ys:List MT} (h:w.ownsRow base 133 6 (.slice (some ⟨g,0,none⟩) n cap) n (zeZ (ys.map MT.mc))):HoldsK encT 6 w g 0 ys.toArray:=fun j hj=>by
 rw[size_flatK]at hj
 have hj:j<ys.length*6:=by simpa using hj
 have hq:j/6<ys.length:=by omega
 refine⟨?_,zct h _⟩
 have hu:(encM (ys.map MT.mc)[j/6]!)[j%6]? =some (encT ys.toArray[j/6]!)[j%6]! :=by
  have e1:(ys.map MT.mc)[j/6]! =(ys.toArray[j/6]!).mc:=by
   rw[getElem!_pos (ys.map MT.mc) (j/6) (by simpa using hq),getElem!_pos ys.toArray (j/6) (by simpa using hq)]
   simp
  rw[e1]
  have h6:(encM (ys.toArray[j/6]!).mc).length=6:=rfl
  rw[List.getElem?_eq_getElem (by omega)]
  show some _=some (encM (ys.toArray[j/6]!).mc)[j%6]!
  rw[getElem!_pos _ (j%6) (by omega)]
 have:=h.cells rfl _ _ (znl (ys.map MT.mc) (j/6) (by simpa using hq) (j%6) _ hu)
 rw[Addr.add_mid,show 0+(j/6*6+j%6)=0+j by omega]at this
 rw[this,get_flatK _ _ _ _ (by simpa using hj)]
 rfl
theorem zhi (w:World) (g m:Nat) (d:Array MT) (os:Array Obj):w.grownBy (sortWorldK encT 6 w g 0 m d os) (some g):=by
 refine⟨rfl,rfl,rfl,size_sortWorldK_c encT 6 w g 0 m d os,fun b hb hne=> ?_⟩
 have hne:g≠b:=fun e=>hne (by rw[e])
 unfold sortWorldK
 rw[heap_grow_old _ _ (by rw[size_putRowK];exact hb)]
 unfold putRowK putRow mapBlock
 simp[Array.getElem?_modify,hne,Sort.ahead]
theorem permIn_list {n:Nat} {d d':Array MT} (hn:d.size=n) (h:PermIn 0 n d d'):d'.toList.Perm d.toList:=by
 have h2:=h.2.2
 have h1:=h.1
 rw[←hn]at h2
 rwa [show d'.extract 0 d.size=d' by rw[←h1];simp,show d.extract 0 d.size=d by simp]at h2
theorem row_of_holds {w:World} {g cap n:Nat} {d:Array MT} (hH:HoldsK encT 6 w g 0 d) (hg:g<w.heap.size) (hn:d.size=n):RowM w (.slice (some ⟨g,0,none⟩) n cap) (d.toList.map MT.mc):=by
 refine .inr ⟨g,cap,by simp[hn],hg,fun j hj i u hu=> ?_⟩
 have hjd:j<d.size:=by simpa using hj
 have e1:(d.toList.map MT.mc)[j]! =(d[j]!).mc:=by
  rw[getElem!_pos (d.toList.map MT.mc) j hj,getElem!_pos d j hjd];simp
 rw[e1]at hu
 have:=HoldsK.cells hH (fun _=>rfl) hjd i u hu
 rwa [Addr.add_lit]at this
theorem sorted_row (W w1:World) (S:Nat→Prop) (hS: ∀b,S b→b<W.heap.size) (ms:List (ByteArray×J)) (zs:List MC) (g cap:Nat) (hown:w1.ownsRow W.heap.size 133 6 (.slice (some ⟨g,0,none⟩) ms.length cap) ms.length (zeZ zs))
  (hf:FlatM w1 S ms zs) (hb:Below W.heap.size W w1) (hn:(ms.map Prod.fst).Nodup) (hA:zkl ms.length):
  Calls Tryz.prog 116 #[.slice (some ⟨g,0,none⟩) ms.length cap,.func (.func 117) #[] #[]] w1 fun e w2=>
   e= .returned (.tuple #[])∧ ∃r zs2,r.Perm ms∧Rises r∧FlatM w2 S r zs2∧RowM w2 (.slice (some ⟨g,0,none⟩) ms.length cap) zs2∧Below W.heap.size W w2:=by
 obtain⟨ys,rfl⟩:=hf.forms
 have hl:ys.length=ms.length:=by have:=hf.length;simpa using this
 have hH:=holds_of_own hown
 have hg:=hown.lt g rfl
 refine(zmp ms.length hA ys.toArray g cap w1 (by simpa using hl) hH hg.2).mono ?_
 rintro e w2 ⟨rfl,m,os,d',rfl,hp,hs⟩
 have hd:d'.size=ms.length:=by rw[hp.1];simpa using hl
 have hpl:=permIn_list (by simpa using hl) hp
 have hH2:=holdsK_sortWorldK_c encT 6 w1 g 0 ys.toArray d' m os hH hg.2 hp.1
 have hgr:=zhi w1 g m d' os
 obtain⟨r,hr1,hr2⟩:=FlatM.perm ((hpl.map MT.mc).symm) ms hf
 refine⟨rfl,r,d'.toList.map MT.mc,hr1,?_,hr2.keeps (Keeps.grown hgr (fun b h e=> ?_)) (fun b h _=>h),row_of_holds hH2 (Nat.lt_of_lt_of_le hg.2 hgr.size) hd,hb.grown hgr hb.size (fun k hk=>by injection hk with hk;omega)⟩
 ·refine rises_of (d:=d') ?_ ((hr1.map Prod.fst).nodup_iff.2 hn) (by rw[hd];exact hs)
  rw[←hr2.names,List.map_map];rfl
 ·injection e with e;have:=hS b h;omega
theorem insert_nil (w:World):Calls Tryz.prog 175 #[.slice none 0 0,.int .i64 0,.int .i64 0,.func (.func 117) #[] #[]] w fun e w'=>e= .returned (.tuple #[])∧w=w':=by
 go_enter Tryz.func175,Tryz.ntmps175
 go_wp2
 refine wp_loop_rounds 1 ?_
 rw[rounds_succ]
 go_wp2
 go_end0
 exact⟨rfl,rfl⟩
theorem stable_nil (w:World):Calls Tryz.prog 151 #[.slice none 0 0,.int .i64 0,.func (.func 117) #[] #[]] w fun e w'=>e= .returned (.tuple #[])∧w=w':=by
 have HI:=Lib.hid insert_nil
 go_enter Tryz.func151,Tryz.ntmps151
 go_wp2
 refine wp_loop_rounds 1 ?_
 rw[rounds_succ]
 go_wp2_with(go_at_call 175;refine(HI.out _).mono ?_;rintro e w1 ⟨rfl,rfl⟩)
 refine wp_loop_rounds 1 ?_
 rw[rounds_succ]
 go_wp2
 go_end0
 exact⟨rfl,rfl⟩
theorem sorted_nil (w:World):Calls Tryz.prog 116 #[.slice none 0 0,.func (.func 117) #[] #[]] w fun e w'=>e= .returned (.tuple #[])∧w=w':=by
 have HA:=Lib.hid stable_nil
 go_enter Tryz.func116,Tryz.ntmps116
 go_wp2_with(go_at_call 151;refine(HA.out _).mono ?_;rintro e w1 ⟨rfl,rfl⟩)
 go_end0
 exact⟨rfl,rfl⟩
theorem sorted_any (W w1:World) (S:Nat→Prop) (hS: ∀b,S b→b<W.heap.size) (ms:List (ByteArray×J)) (zs:List MC) (v:Value) (hown:w1.ownsRow W.heap.size 133 6 v ms.length (zeZ zs))
  (hf:FlatM w1 S ms zs) (hb:Below W.heap.size W w1) (hn:(ms.map Prod.fst).Nodup) (hA:zkl ms.length):
  Calls Tryz.prog 116 #[v,.func (.func 117) #[] #[]] w1 fun e w2=>
   e= .returned (.tuple #[])∧ ∃r zs2,r.Perm ms∧Rises r∧FlatM w2 S r zs2∧RowM w2 v zs2∧Below W.heap.size W w2:=by
 rcases own_form6 hown with rfl|⟨g,cap,rfl⟩
 ·have h0:ms=[]:=by
   rcases hown.2 with⟨_,h⟩|⟨_,_,_,h,_⟩
   ·exact List.eq_nil_of_length_eq_zero h
   ·simp at h
  subst h0
  have hz:zs=[]:=hf
  subst hz
  refine(sorted_nil w1).mono ?_
  rintro e w2 ⟨rfl,rfl⟩
  exact⟨rfl,[],[],List.Perm.refl _,by unfold Rises;simp,hf,.inl ⟨rfl,rfl⟩,hb⟩
 ·exact sorted_row W w1 S hS ms zs g cap hown hf hb hn hA
end Go.Proofs.YtceddodfddlncaaGreatDoor
namespace Go.Proofs.YtceddodfddlncaaGreatDoor
open Go Go.RowKit
theorem infoStrB:(Tryz.prog.info? 9).map (fun i=>(i.zero,i.size,i.bytes))=some (some (.string ByteArray.empty),1,16):=by kernel_rfl
structure BInv (W wr:World) (r:List (ByteArray×J)) (k j:Nat) (vL vK:Value) (xs:List Value):Prop where
 c4:Blk wr W.heap.size 63 [.int .i64 5,.int .i64 0,.string ⟨#[]⟩,vL,vK]
 oK:wr.ownsRow (W.heap.size+1) 9 1 vK k (((r.take k).map Prod.fst).map Value.string)
 oL:wr.ownsRow (W.heap.size+1) 63 5 vL j xs
 fl:FlatJ wr (fun b=>W.heap.size+1≤b∧vL.ownBlock≠some b∧vK.ownBlock≠some b) ((r.take j).map Prod.snd) xs
 kl: ∀g,vL.ownBlock=some g→vK.ownBlock≠some g
 bel:Below W.heap.size W wr
 sz:W.heap.size+1≤wr.heap.size
variable {W wr w4 w5:World} {r:List (ByteArray×J)} {k j:Nat} {vL vK:Value} {xs:List Value}
theorem BInv.moved (h:BInv W wr r k j vL vK xs) (hm:wr.grownBy w4 none):BInv W w4 r k j vL vK xs:=
 ⟨h.c4.grown hm (by simp),h.oK.kept hm (Classical.em _),h.oL.kept hm (Classical.em _),h.fl.keeps (Keeps.grown hm (fun b _ e=>by cases e)) (fun b h _=>h),h.kl,h.bel.grown hm h.bel.size (fun k hk=>by cases hk),Nat.le_trans h.sz hm.size⟩
theorem BInv.name {t:ByteArray} {g cap:Nat} (h:BInv W wr r k j vL vK xs) (hk:k<r.length) (ht:r[k].1=t) (hgr:wr.grownBy w5 vK.ownBlock)
  (hown:w5.ownsRow (W.heap.size+1) 9 1 (.slice (some ⟨g,0,none⟩) (k+1) cap) (k+1) (((r.take k).map Prod.fst).map Value.string++[.string t])) (hat:vK.ownBlock=some g∨wr.heap.size≤g):
  BInv W (w5.setCell ⟨W.heap.size,4,none⟩ (.slice (some ⟨g,0,none⟩) (k+1) cap)) r (k+1) j vL (.slice (some ⟨g,0,none⟩) (k+1) cap) xs:=by
 have g7:=zaV w5 W.heap.size 4 (.slice (some ⟨g,0,none⟩) (k+1) cap)
 have hgB:W.heap.size+1≤g:=(hown.lt g rfl).1
 have lK:=fun b hb=>(h.oK.lt b hb).1
 have lL:=fun b hb=>h.oL.lt b hb
 have hgL: ∀b,vL.ownBlock=some b→g≠b:=fun b hb e=>by
  rcases hat with h'|h'
  ·exact h.kl b hb (by rw[h',e])
  ·have:=(lL b hb).2;omega
 refine⟨?_,?_,?_,?_,?_,?_,Nat.le_trans h.sz (Nat.le_trans hgr.size g7.size)⟩
 ·have:Blk w5 W.heap.size 63 [.int .i64 5,.int .i64 0,.string ⟨#[]⟩,vL,vK]:=h.c4.grown hgr (fun e=>by have:=lK _ e.symm;omega)
  exact this.setCell 4 _
 ·rw[show(r.take (k+1)).map Prod.fst=(r.take k).map Prod.fst++[t]by rw[List.take_succ_eq_append_getElem hk,List.map_append,List.map_singleton,ht],List.map_append]
  exact hown.kept g7 (.inr (by simp[Value.ownBlock];omega))
 ·refine(h.oL.kept hgr ?_).kept g7 ?_
  ·cases hv:vL.ownBlock with
   |none=>exact .inl rfl
   |some b=>exact .inr (fun e=>h.kl b hv e.symm)
  ·cases hv:vL.ownBlock with
   |none=>exact .inl rfl
   |some b=>exact .inr (fun e=>by injection e with e;have:=(lL b hv).1;omega)
 ·refine h.fl.keeps ⟨Nat.le_trans hgr.size g7.size,fun b h1 h3=> ?_⟩ (fun b h1 h3=>⟨h1.1,h1.2.1,fun e=> ?_⟩)
  ·rw[g7.block b (Nat.lt_of_lt_of_le h3 hgr.size) (by intro e;injection e with e;have:=h1.1;omega)]
   exact hgr.block b h3 (fun e=>h1.2.2 e.symm)
  ·have e:g=b:=by simpa[Value.ownBlock]using e
   rcases hat with h'|h'
   ·exact h1.2.2 (by rw[h',e])
   ·omega
 ·intro b hb e
  have e:g=b:=by simpa[Value.ownBlock]using e
  exact hgL b hb e
 ·refine(h.bel.grown hgr h.bel.size (fun b hb=> ?_)).grown g7 (Nat.le_trans h.bel.size hgr.size) (fun b hb=> ?_)
  ·have:=lK b hb;omega
  ·injection hb with hb;omega
theorem BInv.value {x:J} {c0 c1 c2 c3 c4:Value} {g cap:Nat} (h:BInv W wr r k j vL vK xs) (h4:wr.grownBy w4 none) (hj:j<r.length) (hx:r[j].2=x) (hr:RepS w4 (fun b=>wr.heap.size≤b) x (.agg #[c0,c1,c2,c3,c4])) (hgr:w4.grownBy w5 vL.ownBlock)
  (hown:w5.ownsRow (W.heap.size+1) 63 5 (.slice (some ⟨g,0,none⟩) (j+1) cap) (j+1) (xs++[c0,c1,c2,c3,c4])) (hat:vL.ownBlock=some g∨w4.heap.size≤g):
  BInv W (w5.setCell ⟨W.heap.size,3,none⟩ (.slice (some ⟨g,0,none⟩) (j+1) cap)) r k (j+1) (.slice (some ⟨g,0,none⟩) (j+1) cap) vK (xs++[c0,c1,c2,c3,c4]):=by
 have hI:=h.moved h4
 have g7:=zaV w5 W.heap.size 3 (.slice (some ⟨g,0,none⟩) (j+1) cap)
 have hgB:W.heap.size+1≤g:=(hown.lt g rfl).1
 have lL:=fun b hb=>(hI.oL.lt b hb).1
 have lK:=fun b hb=>hI.oK.lt b hb
 have hs:=h.sz
 have hgK: ∀b,vK.ownBlock=some b→g≠b:=fun b hb e=>by
  rcases hat with h'|h'
  ·exact h.kl b (by rw[h',e]) hb
  ·have:=(lK b hb).2;omega
 have hsz:w4.heap.size≤(w5.setCell ⟨W.heap.size,3,none⟩ (.slice (some ⟨g,0,none⟩) (j+1) cap)).heap.size:=Nat.le_trans hgr.size g7.size
 have key: ∀b,b<w4.heap.size→W.heap.size+1≤b→vL.ownBlock≠some b→(w5.setCell ⟨W.heap.size,3,none⟩ (.slice (some ⟨g,0,none⟩) (j+1) cap)).heap[b]? =w4.heap[b]? :=fun b hk h1 h2=>by
  rw[g7.block b (Nat.lt_of_lt_of_le hk hgr.size) (by intro e;injection e with e;omega)]
  exact hgr.block b hk (fun e=>h2 e.symm)
 refine⟨?_,?_,?_,?_,?_,?_,Nat.le_trans hI.sz hsz⟩
 ·have:Blk w5 W.heap.size 63 [.int .i64 5,.int .i64 0,.string ⟨#[]⟩,vL,vK]:=hI.c4.grown hgr (fun e=>by have:=lL _ e.symm;omega)
  exact this.setCell 3 _
 ·refine(hI.oK.kept hgr ?_).kept g7 ?_
  ·cases hv:vK.ownBlock with
   |none=>exact .inl rfl
   |some b=>exact .inr (fun e=>h.kl b e.symm hv)
  ·cases hv:vK.ownBlock with
   |none=>exact .inl rfl
   |some b=>exact .inr (fun e=>by injection e with e;have:=(lK b hv).1;omega)
 ·exact hown.kept g7 (.inr (by simp[Value.ownBlock];omega))
 ·rw[show(r.take (j+1)).map Prod.snd=(r.take j).map Prod.snd++[x]by rw[List.take_succ_eq_append_getElem hj,List.map_append,List.map_singleton,hx]]
  refine FlatJ.snoc ?_ ?_
  ·refine RepS.keeps (S:=fun b=>wr.heap.size≤b) ⟨hsz,fun b h1 h3=> ?_⟩ (fun b h1 h3=> ?_) _ _ hr
   ·replace h1:wr.heap.size≤b:=h1
    exact key b h3 (by omega) (fun e=>by have:=(h.oL.lt b e).2;omega)
   ·replace h1:wr.heap.size≤b:=h1
    refine⟨by omega,fun e=> ?_,fun e=>by have:=(h.oK.lt b e).2;omega⟩
    have e:g=b:=by simpa[Value.ownBlock]using e
    rcases hat with h'|h'
    ·have:=(h.oL.lt g h').2;omega
    ·omega
  ·refine hI.fl.keeps ⟨hsz,fun b h1 h3=> ?_⟩ (fun b h1 h3=> ?_)
   ·exact key b h3 h1.1 h1.2.1
   ·refine⟨h1.1,fun e=> ?_,h1.2.2⟩
    have e:g=b:=by simpa[Value.ownBlock]using e
    rcases hat with h'|h'
    ·exact h1.2.1 (by rw[h',e])
    ·omega
 ·intro b hb e
  have hb:g=b:=by simpa[Value.ownBlock]using hb
  exact hgK b e hb
 ·refine(hI.bel.grown hgr hI.bel.size (fun b hb=> ?_)).grown g7 (Nat.le_trans hI.bel.size hgr.size) (fun b hb=> ?_)
  ·have:=lL b hb;omega
  ·injection hb with hb;omega
theorem BInv.done {W0:World} (h:BInv W wr r r.length r.length vL vK xs) (h0:W0.heap.size≤W.heap.size) (hl:r.length≤1000) (hs: ∀m∈r,m.1.size≤9223372036854775807):
  RepS wr (fun b=>W0.heap.size≤b) (.mk 5 0 ⟨#[]⟩ (r.map Prod.snd) (r.map Prod.fst)) (.agg #[.int .i64 5,.int .i64 0,.string ⟨#[]⟩,vL,vK]):=by
 have hK:=h.oK
 have hL:=h.oL
 have hF:=h.fl
 rw[List.take_length]at hK hF
 refine RepS.of_rows (base:=W.heap.size+1) (l:=r.map Prod.snd) (k:=r.map Prod.fst) (by rw[List.length_map];exact hL) hF (by rw[List.length_map];exact hK) (fun b hb _=>show W0.heap.size≤b by have:=hb.1;omega) (fun b hb=>show W0.heap.size≤b by omega) (by decide) (by rw[List.length_map];omega) (by rw[List.length_map];omega) (fun t ht=> ?_)
 obtain⟨m,hm,rfl⟩:=List.mem_map.1 ht
 exact hs m hm
theorem FlatM.at {W:World} {S:Nat→Prop}: ∀{ms:List (ByteArray×J)} {zs:List MC},FlatM W S ms zs→ ∀j (hj:j<ms.length),zs[j]!.nm=ms[j].1∧ms[j].1.size≤9223372036854775807∧RepS W S ms[j].2 (.agg #[zs[j]!.a0,zs[j]!.a1,zs[j]!.a2,zs[j]!.a3,zs[j]!.a4])
 |m::r,zs,h,0,_=>by obtain⟨z,zs',rfl,h1,h2,h3,_⟩:=h;exact⟨h1,h2,h3⟩
 |m::r,zs,h,j+1,hj=>by
  obtain⟨z,zs',rfl,_,_,_,h⟩:=h
  have:=h.at j (by simpa using hj)
  exact this
theorem RowM.grownN {w w2:World} {v:Value} {zs:List MC} (h:RowM w v zs) (hg:w.grownBy w2 none):RowM w2 v zs:=by
 rcases h with h|⟨g,c,e,hlt,hc⟩
 ·exact .inl h
 ·exact .inr ⟨g,c,e,Nat.lt_of_lt_of_le hlt hg.size,fun j hj i u hu=>(World.cell?_of_block (hg.block g hlt (by simp))).trans (hc j hj i u hu)⟩
theorem RowM.form {w:World} {v:Value} {zs:List MC} (h:RowM w v zs): ∃A c,v= .slice A zs.length c∧ ∀j,j<zs.length→ ∃g,A=some ⟨g,0,none⟩∧g<w.heap.size∧ ∀i u,(encM zs[j]!)[i]? =some u→w.cell? ⟨g,j*6+i,none⟩=some u:=by
 rcases h with⟨rfl,rfl⟩|⟨g,c,rfl,hlt,hc⟩
 ·exact⟨none,0,rfl,fun j hj=>by simp at hj⟩
 ·exact⟨_,c,rfl,fun j hj=>⟨g,rfl,hlt,fun i u hu=>by have:=hc j hj i u hu;rwa [Nat.zero_add]at this⟩⟩
theorem BInv.start (W:World) (r:List (ByteArray×J)):
  BInv W (W.alloc (.cells #[.int .i64 5,.int .i64 0,.string ⟨#[]⟩,.slice none 0 0,.slice none 0 0] 63)) r 0 0 (.slice none 0 0) (.slice none 0 0) []:=by
 refine⟨zck W rfl [.int .i64 5,.int .i64 0,.string ⟨#[]⟩,.slice none 0 0,.slice none 0 0] _,World.ownsRow_nil _ _ _ _,World.ownsRow_nil _ _ _ _,rfl,fun g h=>by simp[Value.ownBlock]at h,?_,by simp⟩
 exact(Below.refl W.heap.size W).alloc (Nat.le_refl _) _
theorem own_slice {w:World} {base n size:Nat} {e:TypeId} {v:Value} {xs:List Value} (h:w.ownsRow base e size v n xs): ∃A c,v= .slice A n c:=by
 rcases h.2 with⟨h,h0⟩|⟨g,cap,cur,h,_⟩
 ·exact⟨none,0,by rw[h0];exact h⟩
 ·exact⟨_,cap,h⟩
theorem Rises.ne {r:List (ByteArray×J)} (h:Rises r) (k:Nat) (hk:k+1<r.length):r[k+1].1≠r[k].1:=fun e=>by
 have:=(List.pairwise_iff_getElem.1 h) k (k+1) (by omega) hk (by omega)
 rw[e,zfn]at this
 cases this
theorem obj_of (ms:List (ByteArray×J)) (hok:MsOk ms) (hA:zkl ms.length):OAsk ms:=fun w vM zs S hS hf hr=>by
 obtain⟨hl,hnd,hsm⟩:=hok
 obtain⟨W1,hW1⟩: ∃W,W=w.alloc (.cells zeros5.toArray 63):=⟨_,rfl⟩
 have g1:w.grownBy W1 none:=by rw[hW1];exact World.grownBy_alloc _ _ none
 have b1:Blk W1 w.heap.size 63 zeros5:=by rw[hW1];exact zck w rfl zeros5 _
 have z1:W1.heap.size=w.heap.size+1:=by rw[hW1];simp
 have hf1:=hf.keeps (Keeps.grown g1 (fun b _ e=>by cases e)) (fun b h _=>h)
 have hS1: ∀b,S b→b<W1.heap.size:=fun b h=>by have:=hS b h;omega
 have HC:=Lib.hid (cloneM_any W1 S ms zs (by omega) vM hf1 (hr.grownN g1))
 have HSO:=Lib.hid (fun w1 v hown hf hb=>sorted_any W1 w1 S hS1 ms zs v hown hf hb hnd hA)
 have HF1:=Lib.hid hf1
 have HW1:=Lib.hid hW1
 have HB1:=Lib.hid b1
 have HZ1:=Lib.hid z1
 have HG1:=Lib.hid g1
 have HPU:=Lib.hid (fun(r:List (ByteArray×J)) (hp:r.Perm ms) (hr:Rises r)=>zhW hnd hp hr)
 have HSM:=Lib.hid hsm
 have HL:=Lib.hid hl
 have HS:=Lib.hid hS1
 obtain⟨iJ,hJ,hJ0,hJ1,hJ2⟩:=info_parts infoJp
 obtain⟨iS,hT,hT0,hT1,hT2⟩:=info_parts infoStrB
 clear g1 b1 z1 hf1 hS1 hS hf hr hl hnd hsm hA hW1
 go_enter Tryz.func85,Tryz.ntmps85
 go_wp2_with fail
 rw[show(w.alloc (.cells #[.int .i64 0,.int .i64 0,.string ⟨#[]⟩,.slice none 0 0,.slice none 0 0] 63))=W1 from HW1.out.symm]
 refine HC.out.mono ?_
 rintro e w2 ⟨v2,rfl,hown,hb2⟩
 have HSC:=Lib.hid (HSO.out w2 v2 hown (HF1.out.keeps (Keeps.below hb2 (fun b h _=>HS.out b h)) (fun b h _=>h)) hb2)
 clear hown hb2
 go_wp2_with fail
 refine HSC.out.mono ?_
 rintro e w3 ⟨rfl,r,zs2,hp,hri,hf3,hr3,hb3⟩
 obtain⟨A,c,rfl,hcs⟩:=hr3.form
 have hrl:r.length=zs2.length:=hf3.length.symm
 have hn3:zs2.length≤256:=by have:=HL.out;have:=hp.length_eq;omega
 obtain⟨n,hn⟩: ∃n,n=zs2.length:=⟨_,rfl⟩
 rw[←hn]at hcs hrl hn3⊢
 have HCS:=Lib.hid hcs
 have HRL:=Lib.hid hrl
 have HF3:=Lib.hid hf3
 have HB3:=Lib.hid hb3
 have HP:=Lib.hid hp
 have HRI:=Lib.hid hri
 clear hp hri hf3 hr3 hb3 hcs hrl hn
 go_wp2_with fail
 go_loopw[14] (fun jv wr=> ∃k:Nat,k≤n∧jv= .int .i64 (k:Int)∧ ∃vL vK xs,BInv w3 wr r k k vL vK xs) (fun jv _=>n-(intOf jv).toNat)
 case atStart=>exact⟨0,Nat.zero_le _,rfl,_,_,_,BInv.start w3 r⟩
 case round=>
  obtain⟨k,hk,rfl,vL,vK,xs,hB⟩:=hrel
  by_cases hlt:k<n
  ·have hkr:k<r.length:=by rw[HRL.out];exact hlt
   obtain⟨g,rfl,hglt,hc⟩:=HCS.out k hlt
   obtain⟨hnm,hns,hx⟩:=HF3.out.at k hkr
   obtain⟨vk,A2,c2,e, -,⟨K2,d2,ek, -⟩, -⟩:=hx.open
   simp only[Value.agg.injEq,Array.mk.injEq,List.cons.injEq,and_true]at e
   obtain⟨y0,hy0⟩: ∃a,a=r[k].2.kind:=⟨_,rfl⟩
   obtain⟨y1,hy1⟩: ∃a,a=r[k].2.n:=⟨_,rfl⟩
   obtain⟨y2,hy2⟩: ∃a,a=r[k].2.s:=⟨_,rfl⟩
   obtain⟨y3,hy3⟩: ∃a,a=r[k].2.l.length:=⟨_,rfl⟩
   obtain⟨y4,hy4⟩: ∃a,a=r[k].2.k.length:=⟨_,rfl⟩
   rw[←hy0,←hy1,←hy2,←hy3]at e
   rw[←hy4]at ek
   obtain⟨e0,e1,e2,e3,e4⟩:=e
   rw[ek]at e4
   obtain⟨t,ht⟩: ∃t,t=r[k].1:=⟨_,rfl⟩
   rw[←ht]at hnm hns
   have hcell: ∀(a:Nat) (u:Value),(encM zs2[k]!)[a]? =some u→wr.cell? ⟨g,k*6+a,none⟩=some u:=fun a u hu=>(hB.bel.cell (p:=⟨g,k*6+a,none⟩) hglt).trans (hc a u hu)
   have q0:wr.cell? ⟨g,k*6,none⟩=some (.string t):=hcell 0 _ (by show some (Value.string zs2[k]!.nm)=_;rw[hnm])
   have q1:wr.cell? ⟨g,k*6+1,none⟩=some (.int .i64 y0):=hcell 1 _ (by show some zs2[k]!.a0=_;rw[e0])
   have q2:wr.cell? ⟨g,k*6+2,none⟩=some (.int .i64 y1):=hcell 2 _ (by show some zs2[k]!.a1=_;rw[e1])
   have q3:wr.cell? ⟨g,k*6+3,none⟩=some (.string y2):=hcell 3 _ (by show some zs2[k]!.a2=_;rw[e2])
   have q4:wr.cell? ⟨g,k*6+4,none⟩=some (.slice A2 y3 c2):=hcell 4 _ (by show some zs2[k]!.a3=_;rw[e3])
   have q5:wr.cell? ⟨g,k*6+5,none⟩=some (.slice K2 y4 d2):=hcell 5 _ (by show some zs2[k]!.a4=_;rw[e4])
   have hnext:k+1<n→ ∃t',t'≠t∧wr.cell? ⟨g,(k+1)*6,none⟩=some (.string t'):=fun h1=>by
    have hkr1:k+1<r.length:=by rw[HRL.out];exact h1
    obtain⟨g',e',hg',hc'⟩:=HCS.out (k+1) h1
    injection e' with e';injection e' with e'
    subst e'
    refine⟨r[k+1].1,by rw[ht];exact HRI.out.ne k hkr1,?_⟩
    exact(hB.bel.cell (p:=⟨g,(k+1)*6,none⟩) hglt).trans (hc' 0 _ (by show some (Value.string zs2[k+1]!.nm)=_;rw[(HF3.out.at (k+1) hkr1).1]))
   have hgr0:=World.grownBy_alloc wr (.cells #[.string t,.int .i64 y0,.int .i64 y1,.string y2,.slice A2 y3 c2,.slice K2 y4 d2] 133) none
   have HB6:=Lib.hid (hB.moved hgr0)
   have HC6:Hid (Blk (wr.alloc (.cells #[.string t,.int .i64 y0,.int .i64 y1,.string y2,.slice A2 y3 c2,.slice K2 y4 d2] 133)) wr.heap.size 133 [.string t,.int .i64 y0,.int .i64 y1,.string y2,.slice A2 y3 c2,.slice K2 y4 d2]∧w3.heap.size+1≤wr.heap.size∧g<w3.heap.size):=Lib.hid ⟨zck wr rfl [.string t,.int .i64 y0,.int .i64 y1,.string y2,.slice A2 y3 c2,.slice K2 y4 d2] _,hB.sz,hglt⟩
   have HNX:Hid (k+1<n→ ∃t',t'≠t∧(wr.alloc (.cells #[.string t,.int .i64 y0,.int .i64 y1,.string y2,.slice A2 y3 c2,.slice K2 y4 d2] 133)).cell? ⟨g,(k+1)*6,none⟩=some (.string t')):=Lib.hid fun h=>by
    obtain⟨t',h1,h2⟩:=hnext h
    exact⟨t',h1,(zaZ h2 hgr0 (by simp)).trans rfl⟩
   have HLT:Hid ((∀b,vK.ownBlock=some b→w3.heap.size+1≤b∧b<wr.heap.size)∧(∀b,vL.ownBlock=some b→w3.heap.size+1≤b∧b<wr.heap.size)):=Lib.hid ⟨fun b h=>hB.oK.lt b h,fun b h=>hB.oL.lt b h⟩
   have HHT:=Lib.hid ht
   have HHY:=Lib.hid (And.intro hy0 (And.intro hy1 (And.intro hy2 (And.intro hy3 hy4))))
   have hk0:(0:Int)≤(k:Int):=by omega
   have hk1:(k:Int)<(n:Int):=by omega
   rw[e0,e1,e2,e3,e4]at hx
   have hsmX:=HSM.out _ ((HP.out.mem_iff).1 (List.getElem_mem hkr))
   obtain⟨X,hX⟩: ∃X,X=r[k].2:=⟨_,rfl⟩
   rw[←hX]at hx hsmX
   have HXX:=Lib.hid hX
   have HCL:Hid (∀W',Below w3.heap.size w3 W'→Calls Tryz.prog 98 #[.agg #[.int .i64 y0,.int .i64 y1,.string y2,.slice A2 y3 c2,.slice K2 y4 d2]] W' (Cl W' X)):=Lib.hid fun W' hW=>
    clone_any X hsmX S W' _ (fun b h=>by have:=HS.out b h;have:=HB3.out.size;have:=hW.size;omega)
     (RepS.keeps (Keeps.below hW (fun b _ h=>h)) (fun _ h _=>h) _ _ hx)
   have HKR:=Lib.hid hkr
   clear hB hnm hx hX hsmX e0 e1 e2 e3 e4 ek hcell hc hnext hgr0 ht hy0 hy1 hy2 hy3 hy4
   go_wp2
   obtain⟨W6,hW6⟩: ∃W,W=wr.alloc (.cells #[.string t,.int .i64 y0,.int .i64 y1,.string y2,.slice A2 y3 c2,.slice K2 y4 d2] 133):=⟨_,rfl⟩
   obtain⟨q,hq⟩: ∃q,q=wr.heap.size:=⟨_,rfl⟩
   rw[←hW6]at HB6 HC6 HNX⊢
   rw[←hq]at HC6 HLT⊢
   clear hW6 hq q0 q1 q2 q3 q4 q5 hglt
   have d0:=HC6.out.1.cell 0
   go_cut[34]from 15 to 50 (fun v34 wx=>v34= .bool false∧ ∃z,wx=W6.drewN z)
   case first=>
    by_cases h1:k+1<n
    ·obtain⟨t',hne,hcl⟩:=HNX.out h1
     have hd:decide ((k:Int)+1<(n:Int))=true:=decide_eq_true (by omega)
     have hd':(k:Int)+1<(n:Int):=by omega
     have e9:(t'.toList==t.toList)=false:=by rw[zcK];exact decide_eq_false hne
     go_quiet (fail)
     go_wp2_with fail
     go_meet
     case rel=>exact⟨rfl,_,rfl⟩
    ·have hd:decide ((k:Int)+1<(n:Int))=false:=decide_eq_false (by omega)
     have hd': ¬(k:Int)+1<(n:Int):=by omega
     go_quiet (fail)
     go_wp2_with fail
     go_meet
     case rel=>exact⟨rfl,_,rfl⟩
   case rest=>
    obtain⟨rfl,z,rfl⟩:=hcut
    have HB7:=Lib.hid (HB6.out.moved (zbe z none))
    have hd7:Blk (W6.drewN z) q 133 [.string t,.int .i64 y0,.int .i64 y1,.string y2,.slice A2 y3 c2,.slice K2 y4 d2]:=HC6.out.1.drewN z
    obtain⟨W7,hW7⟩: ∃W,W=W6.drewN z:=⟨_,rfl⟩
    rw[←hW7]at HB7 hd7⊢
    have HD7:=Lib.hid hd7
    have m0:W7.cell? ⟨q,0,none⟩=some (.string t):=hd7.cell 0
    have a3:W7.cell? ⟨w3.heap.size,3,none⟩=some vL:=HB7.out.c4.cell 3
    have a4:W7.cell? ⟨w3.heap.size,4,none⟩=some vK:=HB7.out.c4.cell 4
    obtain⟨ns,hns⟩: ∃ns,ns=((r.take k).map Prod.fst).map Value.string:=⟨_,rfl⟩
    have hoK7:=HB7.out.oK
    rw[←hns]at hoK7
    have HOK7:=Lib.hid hoK7
    have HNS:=Lib.hid hns
    clear hW7 hd7 d0 hns hoK7
    go_wp2_with(at_builtin;refine wpList_append_lies _ rfl _ _ 61 rfl (w3.heap.size+1) 9 iS (.string ByteArray.empty) 1 16 Tryz.underlying61 hT hT0 hT1 hT2 rfl (by decide) vK k ns rfl (HOK7.out.alloc _) ⟨W7.heap.size,0,none⟩ 1 1 [.string t] rfl rfl ?c1 ?c2 (by decide) ?c3 ?c4 ?c5 _ rfl ?_)
    case c1=>exact cell_one_new _ _ _
    case c2=>intro u hu;simp at hu;subst hu;rfl
    case c3=>unfold maxLen;omega
    case c4=>omega
    case c5=>have:=HB7.out.sz;simp;omega
    intro g5 cap5 w5 hown5 hgrow5 hat5 hlt5
    have hgrA:=World.grownBy_alloc W7 (.cells #[.string t] 9) none
    have hqne:(some q:Option Nat)≠vK.ownBlock:=fun e=>by have:=(HLT.out.1 q e.symm).2;omega
    have hbne:(some w3.heap.size:Option Nat)≠vK.ownBlock:=fun e=>by have:=(HLT.out.1 _ e.symm).1;omega
    have b5:Blk w5 w3.heap.size 63 [.int .i64 5,.int .i64 0,.string ⟨#[]⟩,vL,vK]:=(HB7.out.c4.grownN hgrA).grown hgrow5 hbne
    have m5:Blk w5 q 133 [.string t,.int .i64 y0,.int .i64 y1,.string y2,.slice A2 y3 c2,.slice K2 y4 d2]:=(HD7.out.grownN hgrA).grown hgrow5 hqne
    have HNB:Hid (BInv w3 (w5.setCell ⟨w3.heap.size,4,none⟩ (.slice (some ⟨g5,0,none⟩) (k+1) cap5)) r (k+1) k vL (.slice (some ⟨g5,0,none⟩) (k+1) cap5) xs):=Lib.hid
     ((HB7.out.moved hgrA).name HKR.out HHT.out.symm hgrow5 (by rw[←HNS.out];exact hown5) (hat5.imp_right (fun h=>by rw[h];simp)))
    have hm8:Blk (w5.setCell ⟨w3.heap.size,4,none⟩ (.slice (some ⟨g5,0,none⟩) (k+1) cap5)) q 133 [.string t,.int .i64 y0,.int .i64 y1,.string y2,.slice A2 y3 c2,.slice K2 y4 d2]:=m5.grown (zaV _ _ _ _) (fun e=>by injection e with e;have:=HC6.out.2.1;omega)
    have HM8:=Lib.hid hm8
    have HG5:Hid (w3.heap.size+1≤g5):=Lib.hid (hown5.lt g5 rfl).1
    have x4:=b5.cell 4
    have f4:=b5.frozen 4
    clear hown5 hgrow5 hat5 hlt5 hgrA hqne hbne b5 m5 hm8 m0 a3 a4
    go_wp2
    obtain⟨vK',hvK⟩: ∃v,v=Value.slice (some ⟨g5,0,none⟩) (k+1) cap5:=⟨_,rfl⟩
    rw[←hvK]at HNB HM8⊢
    obtain⟨W8,hW8⟩: ∃W,W=w5.setCell ⟨w3.heap.size,4,none⟩ vK':=⟨_,rfl⟩
    rw[←hW8]at HNB HM8⊢
    clear hW8 hvK x4 f4
    have p3:W8.cell? ⟨w3.heap.size,3,none⟩=some vL:=HNB.out.c4.cell 3
    obtain⟨p4,p5,p6,p7,p8⟩:W8.cell? ⟨q,1,none⟩=some (.int .i64 y0)∧W8.cell? ⟨q,2,none⟩=some (.int .i64 y1)∧W8.cell? ⟨q,3,none⟩=some (.string y2)∧W8.cell? ⟨q,4,none⟩=some (.slice A2 y3 c2)∧W8.cell? ⟨q,5,none⟩=some (.slice K2 y4 d2):=⟨HM8.out.cell 1,HM8.out.cell 2,HM8.out.cell 3,HM8.out.cell 4,HM8.out.cell 5⟩
    have HC8:=Lib.hid (fun W' (hW:Below W8.heap.size W8 W')=>HCL.out W' (HNB.out.bel.trans (hW.mono (Nat.le_of_succ_le HNB.out.sz))))
    have hlt8:w3.heap.size<W8.heap.size:=HNB.out.sz
    go_region_law(first
     |(go_simp;go_at_call 98;(with_reducible refine(HC8.out _ ((Below.refl W8.heap.size W8).drew)).mono ?_);rintro e w9 ⟨v',rfl,hrep,hb9⟩
       obtain⟨vk,A3,c3,rfl, -,⟨K3,d3,rfl, -, -⟩, -, -⟩:=hrep.open
       obtain⟨x0,hx0⟩: ∃a,a=X.kind:=⟨_,rfl⟩
       obtain⟨x1,hx1⟩: ∃a,a=X.n:=⟨_,rfl⟩
       obtain⟨x2,hx2⟩: ∃a,a=X.s:=⟨_,rfl⟩
       obtain⟨x3,hx3⟩: ∃a,a=X.l.length:=⟨_,rfl⟩
       obtain⟨x4,hx4⟩: ∃a,a=X.k.length:=⟨_,rfl⟩
       rw[←hx0,←hx1,←hx2,←hx3,←hx4]at hrep⊢
       clear hx0 hx1 hx2 hx3 hx4
       have HB9:Hid (Below W8.heap.size W8 w9):=Lib.hid (((Below.refl W8.heap.size W8).drew).trans hb9)
       have HREP:Hid (RepS w9 (fun b=>W8.heap.size≤b) X (.agg #[.int .i64 x0,.int .i64 x1,.string x2,.slice A3 x3 c3,.slice K3 x4 d3])):=Lib.hid (RepS.keeps (Keeps.refl _ w9) (fun b (h:_≤b) _=>h) _ _ hrep)
       have p3':w9.cell? ⟨w3.heap.size,3,none⟩=some vL:=(HB9.out.cell (p:=⟨w3.heap.size,3,none⟩) hlt8).trans p3
       have hz9:W8.heap.size≤w9.heap.size:=HB9.out.size
       have p3'':(w9.alloc (.cells #[.int .i64 x0,.int .i64 x1,.string x2,.slice A3 x3 c3,.slice K3 x4 d3] 63)).cell? ⟨w3.heap.size,3,none⟩=some vL:=zaZ p3' (World.grownBy_alloc w9 _ none) (by simp)
       clear hrep hb9)
     |(have HGN:Hid (W8.grownBy (w9.alloc (.cells #[.int .i64 x0,.int .i64 x1,.string x2,.slice A3 x3 c3,.slice K3 x4 d3] 63)) none):=Lib.hid ((zaX HB9.out none).trans (World.grownBy_alloc _ _ none))
       refine step_append_lies _ (by rfl) _ _ _ (by rfl) (w3.heap.size+1) 63 iJ (.agg zeros5.toArray) 5 80 Tryz.underlying60 hJ hJ0 hJ1 hJ2 rfl (by omega) vL k xs (by rfl) (HNB.out.moved HGN.out).oL ⟨w9.heap.size,0,none⟩ 1 1 [.int .i64 x0,.int .i64 x1,.string x2,.slice A3 x3 c3,.slice K3 x4 d3] (by rfl) (by rfl) (World.news_of_block (cs:= #[.int .i64 x0,.int .i64 x1,.string x2,.slice A3 x3 c3,.slice K3 x4 d3]) (t:=63) (fr:=(0,0)) (heap_alloc_new w9 _)) (by simp[Value.oneCell']) (by omega) (by unfold maxLen;omega) (by omega) (by simp;omega) (w9.heap.size+1) (by simp) ?_
       intro g6 cap6 w10 hown6 hgrow6 hat6 hlt6
       have b10:Blk w10 w3.heap.size 63 [.int .i64 5,.int .i64 0,.string ⟨#[]⟩,vL,vK']:=(HNB.out.c4.grownN HGN.out).grown hgrow6 (fun e=>by have:=(HLT.out.2 _ e.symm).1;omega)
       have x10:=b10.cell 3
       have f10:=b10.frozen 3
       clear b10
       try go_frame))
    all_goals
     have HF:Hid (BInv w3 (w10.setCell ⟨w3.heap.size,3,none⟩ (.slice (some ⟨g6,0,none⟩) (k+1) cap6)) r (k+1) (k+1) (.slice (some ⟨g6,0,none⟩) (k+1) cap6) vK' (xs++[.int .i64 x0,.int .i64 x1,.string x2,.slice A3 x3 c3,.slice K3 x4 d3])):=Lib.hid
      (HNB.out.value HGN.out HKR.out HXX.out.symm (RepS.keeps (Keeps.grown (World.grownBy_alloc w9 _ none) (fun b _ e=>by cases e)) (fun _ h _=>h) _ _ HREP.out) hgrow6 hown6 (hat6.imp_right (fun h=>by rw[h];simp)))
     clear hown6 hgrow6 hat6 hlt6 x10 f10 p3 p4 p5 p6 p7 p8 p3' p3'' hz9
     go_wp2_with fail
     go_roundw
     case rel=>exact⟨k+1,by omega,by go_num,_,_,_,HF.out⟩
     case measure=>simp[intOf];omega
  ·obtain rfl:k=n:=by omega
   have hkn: ¬(k:Int)<(k:Int):=by omega
   obtain⟨A6,c6,rfl⟩:=own_slice hB.oL
   obtain⟨A7,c7,rfl⟩:=own_slice hB.oK
   have hbl1:Below W1.heap.size W1 wr:=HB3.out.trans (hB.bel.mono HB3.out.size)
   have hz:Blk wr w.heap.size 63 zeros5:=HB1.out.below hbl1 (by have:=HZ1.out;omega)
   have hdone:RepS wr (fun b=>W1.heap.size≤b) (.mk 5 0 ⟨#[]⟩ (r.map Prod.snd) (r.map Prod.fst)) (.agg #[.int .i64 5,.int .i64 0,.string ⟨#[]⟩,.slice A6 k c6,.slice A7 k c7]):=by
    have hB':=hB
    rw[←HRL.out]at hB'
    have:=hB'.done (W0:=W1) HB3.out.size (by rw[HRL.out];omega) (fun m hm=>by
     obtain⟨i,hi,rfl⟩:=List.mem_iff_getElem.1 hm
     exact(HF3.out.at i hi).2.1)
    rw[HRL.out]at this
    exact this
   have hset:=zdZ hz (.int .i64 5) (.int .i64 0) (.string ⟨#[]⟩) (.slice A6 k c6) (.slice A7 k c7)
   have HF:=Lib.hid hset
   have HBL:=Lib.hid hbl1
   have HDN:=Lib.hid hdone
   have HPT:Hid (zcx ms=(r.map Prod.fst,r.map Prod.snd)):=Lib.hid (HPU.out r HP.out HRI.out)
   have hc4:=hB.c4
   obtain⟨a0,a1,a2,a3,a4⟩:wr.cell? ⟨w3.heap.size,0,none⟩=some (.int .i64 5)∧wr.cell? ⟨w3.heap.size,1,none⟩=some (.int .i64 0)∧wr.cell? ⟨w3.heap.size,2,none⟩=some (.string ⟨#[]⟩)∧wr.cell? ⟨w3.heap.size,3,none⟩=some (.slice A6 k c6)∧wr.cell? ⟨w3.heap.size,4,none⟩=some (.slice A7 k c7):=⟨hc4.cell 0,hc4.cell 1,hc4.cell 2,hc4.cell 3,hc4.cell 4⟩
   obtain⟨b0,b1,b2,b3,b4⟩:wr.cell? ⟨w.heap.size,0,none⟩=some (.int .i64 0)∧wr.cell? ⟨w.heap.size,1,none⟩=some (.int .i64 0)∧wr.cell? ⟨w.heap.size,2,none⟩=some (.string ⟨#[]⟩)∧wr.cell? ⟨w.heap.size,3,none⟩=some (.slice none 0 0)∧wr.cell? ⟨w.heap.size,4,none⟩=some (.slice none 0 0):=⟨hz.cell 0,hz.cell 1,hz.cell 2,hz.cell 3,hz.cell 4⟩
   obtain⟨f0,f1,f2,f3,f4⟩:wr.frozen? ⟨w.heap.size,0,none⟩=false∧wr.frozen? ⟨w.heap.size,1,none⟩=false∧wr.frozen? ⟨w.heap.size,2,none⟩=false∧wr.frozen? ⟨w.heap.size,3,none⟩=false∧wr.frozen? ⟨w.heap.size,4,none⟩=false:=⟨hz.frozen 0,hz.frozen 1,hz.frozen 2,hz.frozen 3,hz.frozen 4⟩
   clear hB hbl1 hz hdone hset hc4
   go_wp2
   refine bodyPost_ret (zbW Tryz.results85 _ _ w.heap.size _ _ _ rfl HF.out.1 Tryz.underlying63 rfl zau) rfl ?_
   rw[HPT.out]
   refine⟨_,rfl,RepS.keeps (Keeps.grown HF.out.2 (fun b (h:_≤b) e=>by injection e with e;have:=HZ1.out;omega)) (fun b (h:_≤b) _=>show w.heap.size≤b by have:=HZ1.out;omega) _ _ HDN.out,?_⟩
   have hw1:Below w.heap.size w W1:=by rw[HW1.out];exact(Below.refl w.heap.size w).alloc (Nat.le_refl _) _
   exact(hw1.trans (HBL.out.mono (by have:=HZ1.out;omega))).grown HF.out.2 (by have:=HBL.out.size;have:=HZ1.out;omega) (by intro k hk;injection hk with hk;omega)
end Go.Proofs.YtceddodfddlncaaGreatDoor
namespace Go.Proofs.YtceddodfddlncaaGreatDoor
open Go Go.Shelf Go.RowKit Go.Lib Go.Sort
def swR {α:Type} [Inhabited α] (a b:Nat):Nat→Nat→Array α→Array α
 |0,_,d=>d
 |f+1,i,d=>swR a b f (i+1) (swp d (a+i) (b+i))
theorem zfx {α:Type} [Inhabited α] (a b:Nat): ∀(f i:Nat) (d:Array α),(swR a b f i d).size=d.size
 |0,_,_=>rfl
 |f+1,i,d=>by rw[swR,zfx a b f (i+1),size_swp]
theorem zmj {P:Program} {α:Type} [Inhabited α] (L:SlLaysF0.n20 P Tryz.insertM_ren) (FG:P.funcs[214]? =some Tryz.f214) (k:Nat) (aE: ∀w,(isAgg 133).run P w= .ok true w) (zE: ∀w,(Go.sizeOf 133).run P w= .ok k w)
  (enc:α→List Value) (hk: ∀x,(enc x).length=k) (h1: ∀x,∀v∈enc x,v.oneCell'=true) (fv:Value) (blk off cap a b n:Nat) (d:Array α) (w:World) (hH:HoldsK enc k w blk off d) (hblk:blk<w.heap.size) (ha:a+n≤d.size) (hb:b+n≤d.size) (hsz:d.size<4611686018427387904):
  Calls P 214 #[.slice (some ⟨blk,off,none⟩) d.size cap,.int .i64 a,.int .i64 b,.int .i64 n,fv] w fun e w'=>
   e= .returned (.tuple #[])∧ ∃m os,w'=sortWorldK enc k w blk off m (swR a b n 0 d) os:=by
 have mixed:=L.mixed
 have t22:P.underlying 174=some (.slice 133):=L.t22
 have a22: ∀w,(isAgg 174).run P w= .ok false w:=L.a22
 have z22: ∀w,(Go.sizeOf 174).run P w= .ok 1 w:=L.z22
 have v22: ∀w,(zeroValue 174).run P w= .ok (Value.slice none 0 0) w:=L.v22
 have t3:P.underlying 3=some (.int .i64):=L.t3
 have a3: ∀w,(isAgg 3).run P w= .ok false w:=L.a3
 have z3: ∀w,(Go.sizeOf 3).run P w= .ok 1 w:=L.z3
 have v3: ∀w,(zeroValue 3).run P w= .ok (.int .i64 0) w:=L.v3
 have u22:=run_underlying t22
 have HST:Hid (w=sortWorldK enc k w blk off 0 d #[]):=by show w=_;unfold sortWorldK;rw[grow_empty];exact(putRowK_self enc k w blk off d hH).symm
 have HH:Hid (HoldsK enc k w blk off d):=hH
 have HK:Hid (∀x,(enc x).length=k):=hk
 have H1:Hid (∀x,∀v∈enc x,v.oneCell'=true):=h1
 clear hH hk h1
 go_enter FG,Tryz.ntmps214
 go_wp2
 go_loopw[10] (fun v wr=> ∃(i m:Nat) (dk:Array α),v= .int .i64 i∧i≤n∧dk.size=d.size∧wr=sortWorldK enc k w blk off m dk #[]∧Hid (swR a b (n-i) i dk=swR a b n 0 d)) (fun v _=>n-(intOf v).toNat)
 case atStart=>exact⟨0,0,d,rfl,Nat.zero_le _,rfl,HST.out,rfl⟩
 case round=>
  obtain⟨i,m,dk,rfl,hin,hsk,rfl,HO⟩:=hrel
  by_cases hlt:i<n
  ·have hltz:(i:Int)<(n:Int):=by omega
   obtain⟨xa,hxa⟩: ∃x,dk[a+i]! =x:=⟨_,rfl⟩
   obtain⟨xb,hxb⟩: ∃x,dk[b+i]! =x:=⟨_,rfl⟩
   obtain⟨p,hp⟩: ∃p,p=a+i:=⟨_,rfl⟩
   obtain⟨q,hq⟩: ∃q,q=b+i:=⟨_,rfl⟩
   rw[←hp]at hxa
   rw[←hq]at hxb
   have wp:IntKind.i64.wrap ((a:Int)+(i:Int))=(p:Int):=by rw[IntKind.wrap_i64];omega
   have wq:IntKind.i64.wrap ((b:Int)+(i:Int))=(q:Int):=by rw[IntKind.wrap_i64];omega
   have p0:(0:Int)≤(p:Int):=by omega
   have q0:(0:Int)≤(q:Int):=by omega
   have pz:(p:Int)<(d.size:Int):=by omega
   have qz:(q:Int)<(d.size:Int):=by omega
   have hHd:HoldsK enc k (sortWorldK enc k w blk off m dk #[]).drew blk off dk:=by
    have:=holdsK_sortWorldK_c enc k w blk off d dk m #[] HH.out hblk hsk
    exact this
   generalize hwr:sortWorldK enc k w blk off m dk #[]=wr at hHd⊢
   have HWR:=Lib.hid hwr
   have bnd: ∀x,x<dk.size→x*k+k≤dk.size*k:=fun x hx=>by
    have:=Nat.mul_le_mul_right k (show x+1≤dk.size from hx);rwa [Nat.add_mul,Nat.one_mul]at this
   have la:Sem.run P (loadCellsFrom ⟨blk,off+p*k,none⟩ 0 k #[]) wr.drew= .ok (enc xa).toArray wr.drew:=by rw[←hxa];exact run_loadCellsFrom_list P _ _ _ k (HK.out _) (HoldsK.cells hHd HK.out (by omega))
   have lb:Sem.run P (loadCellsFrom ⟨blk,off+q*k,none⟩ 0 k #[]) wr.drew= .ok (enc xb).toArray wr.drew:=by rw[←hxb];exact run_loadCellsFrom_list P _ _ _ k (HK.out _) (HoldsK.cells hHd HK.out (by omega))
   have s1:Sem.run P (storeCells ⟨blk,off+p*k,none⟩ (enc xb) 0) wr.drew= .ok () (wr.drew.setCells blk (off+p*k) (enc xb)):=stores_of_holds P hHd (p*k) _ (by rw[HK.out,size_flatK];exact bnd p (by omega)) (H1.out _)
   have s2:Sem.run P (storeCells ⟨blk,off+q*k,none⟩ (enc xa) 0) (wr.drew.setCells blk (off+p*k) (enc xb))= .ok () ((wr.drew.setCells blk (off+p*k) (enc xb)).setCells blk (off+q*k) (enc xa)):=
    stores_of_holds P (holds_setCells_c hHd (p*k) _ (by rw[HK.out,size_flatK];exact bnd p (by omega))) (q*k) _ (by rw[HK.out,size_setMany,size_flatK];exact bnd q (by omega)) (H1.out _)
   have hsA:(enc xa).length=k:=HK.out _
   have hsB:(enc xb).length=k:=HK.out _
   have HP:=Lib.hid hp
   have HQ:=Lib.hid hq
   clear hwr hHd bnd hp hq
   obtain⟨cA,hcA⟩: ∃c,c=enc xa:=⟨_,rfl⟩
   obtain⟨cB,hcB⟩: ∃c,c=enc xb:=⟨_,rfl⟩
   rw[←hcB]at s1 lb hsB
   rw[←hcA]at la hsA
   rw[←hcA,←hcB]at s2
   have CC:Hid (cA=enc xa∧cB=enc xb):=⟨hcA,hcB⟩
   clear hcA hcB
   go_wp2_with fail
   go_big_region_o
   all_goals go_wp2
   refine⟨⟨i+1,m+1,swp dk p q,by go_num,by omega,by rw[size_swp];exact hsk,?_,(show Hid _ from ?_)⟩,by simp[intOf];omega⟩
   ·rw[CC.out.1,CC.out.2,←hxa,←hxb,←HWR.out]
    exact sortWorldK_swp_c enc k w blk off HK.out m dk #[] hblk p q (by omega) (by omega)
   ·show _=_
    have:=HO.out
    rw[show n-i=(n-(i+1))+1 by omega,swR]at this
    rw[HP.out,HQ.out]
    exact this
  ·obtain rfl:i=n:=by omega
   have hltz: ¬(i:Int)<(i:Int):=by omega
   go_wp2
   go_end0
   exact⟨rfl,m,#[],by rw[←HO.out,Nat.sub_self];rfl⟩
theorem zmk (blk cap a b n:Nat) (d:Array MT) (w:World) (hH:HoldsK encT 6 w blk 0 d) (hblk:blk<w.heap.size) (ha:a+n≤d.size) (hb:b+n≤d.size) (hsz:d.size<4611686018427387904):
  Calls Tryz.prog 214 #[.slice (some ⟨blk,0,none⟩) d.size cap,.int .i64 a,.int .i64 b,.int .i64 n,.func (.func 117) #[] #[]] w fun e w'=>
   e= .returned (.tuple #[])∧ ∃m os,w'=sortWorldK encT 6 w blk 0 m (swR a b n 0 d) os:=
 zmj Tryz.insertM Tryz.func214 6 Tryz.isAgg133 Tryz.sizeOf133 encT (fun _=>rfl) znp _ blk 0 cap a b n d w hH hblk ha hb hsz
end Go.Proofs.YtceddodfddlncaaGreatDoor
namespace Go.Proofs.YtceddodfddlncaaGreatDoor
open Go Go.Sort
variable {α:Type} [Inhabited α]
theorem get_swp (d:Array α) {i j:Nat} (hi:i<d.size) (hj:j<d.size) (x:Nat):(swp d i j)[x]! =if x=j then d[i]! else if x=i then d[j]! else d[x]! :=by
 by_cases h:x=j
 ·subst h;rw[if_pos rfl];exact swp_right d i x hj
 ·rw[if_neg h]
  by_cases h2:x=i
  ·subst h2;rw[if_pos rfl];exact swp_left d x j hi h
  ·rw[if_neg h2];exact swp_other d i j x h2 h
theorem zml {a b:Nat}: ∀(f i:Nat) (d:Array α),a+i+f≤b→b+i+f≤d.size→ ∀x,(swR a b f i d)[x]! =if a+i≤x∧x<a+i+f then d[b+(x-a)]! else if b+i≤x∧x<b+i+f then d[a+(x-b)]! else d[x]!
 |0,i,d,_,_,x=>by rw[swR,if_neg (by omega),if_neg (by omega)]
 |f+1,i,d,h1,h2,x=>by
  rw[swR,zml f (i+1) (swp d (a+i) (b+i)) (by omega) (by rw[size_swp];omega) x]
  have g:=fun y=>get_swp d (i:=a+i) (j:=b+i) (by omega) (by omega) y
  by_cases c1:a+(i+1)≤x∧x<a+(i+1)+f
  ·rw[if_pos c1,if_pos (by omega),g,if_neg (by omega),if_neg (by omega)]
  ·rw[if_neg c1]
   by_cases c2:b+(i+1)≤x∧x<b+(i+1)+f
   ·rw[if_pos c2,if_neg (by omega),if_pos (by omega),g,if_neg (by omega),if_neg (by omega)]
   ·rw[if_neg c2,g]
    by_cases c3:x=b+i
    ·rw[if_pos c3,if_neg (by omega),if_pos (by omega)];congr 1;omega
    ·rw[if_neg c3]
     by_cases c4:x=a+i
     ·rw[if_pos c4,if_pos (by omega)];congr 1;omega
     ·rw[if_neg c4,if_neg (by omega),if_neg (by omega)]
theorem ziq {lo hi a b:Nat}: ∀(f i:Nat) (d:Array α),lo≤a→a+i+f≤hi→lo≤b→b+i+f≤hi→hi≤d.size→PermIn lo hi d (swR a b f i d)
 |0,i,d,_,_,_,_,_=>permIn_refl _ _ _
 |f+1,i,d,h1,h2,h3,h4,h5=>by
  rw[swR]
  exact permIn_trans _ _ _ _ _ (swp_permIn d lo hi (a+i) (b+i) (by omega) (by omega) (by omega) (by omega) h5) (ziq f (i+1) _ h1 (by omega) h3 (by omega) (by rw[size_swp];exact h5))
def rotF (m:Nat):Nat→Nat→Nat→Array α→Array α
 |0,_,_,d=>d
 |f+1,i,j,d=>if i=j then swR (m-i) m i 0 d else if j<i then rotF m f (i-j) j (swR (m-i) m j 0 d)else rotF m f i (j-i) (swR (m-i) (m+j-i) i 0 d)
theorem zmw (m:Nat): ∀(f i j:Nat) (d:Array α),i≤m→m+j≤d.size→0<i→0<j→i+j≤f→Rot d (rotF m f i j d) (m-i) m (m+j)∧PermIn (m-i) (m+j) d (rotF m f i j d)
 |0,i,j,d,_,_,h,_,hf=>absurd hf (by omega)
 |f+1,i,j,d,hi,hj,i0,j0,hf=>by
  rw[rotF]
  by_cases e:i=j
  ·subst e
   rw[if_pos rfl]
   have g:=fun x=>zml (a:=m-i) (b:=m) i 0 d (by omega) (by omega) x
   refine⟨⟨fun x hx=> ?_,fun x h1 h2=> ?_,fun x h1 h2=> ?_⟩,ziq i 0 d (by omega) (by omega) (by omega) (by omega) hj⟩
   ·rw[g,if_neg (by omega),if_neg (by omega)]
   ·rw[g,if_pos (by omega)]
   ·rw[g,if_neg (by omega),if_pos (by omega)]<;>(congr 1<;>omega)
  ·rw[if_neg e]
   by_cases hl:j<i
   ·rw[if_pos hl]
    have g:=fun x=>zml (a:=m-i) (b:=m) j 0 d (by omega) (by omega) x
    have hsz:=zfx (m-i) m j 0 d
    have hp:=ziq (lo:=m-i) (hi:=m+j) (a:=m-i) (b:=m) j 0 d (by omega) (by omega) (by omega) (by omega) hj
    obtain⟨⟨r1,r2,r3⟩,rp⟩:=zmw m f (i-j) j (swR (m-i) m j 0 d) (by omega) (by rw[hsz];exact hj) (by omega) j0 (by omega)
    refine⟨⟨fun x hx=> ?_,fun x h1 h2=> ?_,fun x h1 h2=> ?_⟩,permIn_trans _ _ _ _ _ hp (permIn_mono _ _ _ _ _ _ (by omega) (Nat.le_refl _) (by rw[hsz];exact hj) rp)⟩
    ·rw[r1 x (by omega),g,if_neg (by omega),if_neg (by omega)]
    ·rw[r1 x (by omega),g,if_pos (by omega)]
    ·by_cases c:x<m-i+j+j
     ·rw[r2 x (by omega) (by omega),g,if_neg (by omega),if_pos (by omega)]<;>(congr 1<;>omega)
     ·rw[r3 x (by omega) (by omega),g,if_neg (by omega),if_neg (by omega)]<;>(congr 1<;>omega)
   ·rw[if_neg hl]
    have g:=fun x=>zml (a:=m-i) (b:=m+j-i) i 0 d (by omega) (by omega) x
    have hsz:=zfx (m-i) (m+j-i) i 0 d
    have hp:=ziq (lo:=m-i) (hi:=m+j) (a:=m-i) (b:=m+j-i) i 0 d (by omega) (by omega) (by omega) (by omega) hj
    obtain⟨⟨r1,r2,r3⟩,rp⟩:=zmw m f i (j-i) (swR (m-i) (m+j-i) i 0 d) hi (by rw[hsz];omega) i0 (by omega) (by omega)
    refine⟨⟨fun x hx=> ?_,fun x h1 h2=> ?_,fun x h1 h2=> ?_⟩,permIn_trans _ _ _ _ _ hp (permIn_mono _ _ _ _ _ _ (Nat.le_refl _) (by omega) (by rw[hsz];exact hj) rp)⟩
    ·rw[r1 x (by omega),g,if_neg (by omega),if_neg (by omega)]
    ·by_cases c:x<m-i+(j-i)
     ·rw[r2 x (by omega) (by omega),g,if_neg (by omega),if_neg (by omega)]<;>(congr 1<;>omega)
     ·rw[r3 x (by omega) (by omega),g,if_pos (by omega)]<;>(congr 1<;>omega)
    ·rw[r1 x (by omega),g,if_neg (by omega),if_pos (by omega)]<;>(congr 1<;>omega)
variable {α:Type} [Inhabited α]
theorem Rot.up {d d':Array α} {a k:Nat} (h:Rot d d' a (a+1) (k+1)) (hak:a≤k) (hk:k+1<d'.size):Rot d (swp d' k (k+1)) a (a+1) (k+2):=by
 obtain⟨r1,r2,r3⟩:=h
 have g:=fun x=>get_swp d' (i:=k) (j:=k+1) (by omega) hk x
 refine⟨fun i hi=> ?_,fun i h1 h2=> ?_,fun i h1 h2=> ?_⟩
 ·rw[g,if_neg (by omega),if_neg (by omega)];exact r1 i (by omega)
 ·rw[g,if_neg (by omega)]
  by_cases e:i=k
  ·rw[if_pos e,r1 (k+1) (.inr (by omega))];congr 1;omega
  ·rw[if_neg e];exact r2 i h1 (by omega)
 ·have e:i=k+1:=by omega
  subst e
  rw[g,if_pos rfl,r3 k (by omega) (by omega)];congr 1;omega
theorem Rot.down {d d':Array α} {m k:Nat} (h:Rot d d' k m (m+1)) (hk0:0<k) (hkm:k≤m) (hm:m<d'.size):Rot d (swp d' k (k-1)) (k-1) m (m+1):=by
 obtain⟨r1,r2,r3⟩:=h
 have g:=fun x=>get_swp d' (i:=k) (j:=k-1) (by omega) (by omega) x
 refine⟨fun i hi=> ?_,fun i h1 h2=> ?_,fun i h1 h2=> ?_⟩
 ·rw[g,if_neg (by omega),if_neg (by omega)];exact r1 i (by omega)
 ·have e:i=k-1:=by omega
  subst e
  rw[g,if_pos rfl,r2 k (Nat.le_refl _) (by omega)];congr 1;omega
 ·rw[g,if_neg (by omega)]
  by_cases e:i=k
  ·rw[if_pos e,r1 (k-1) (.inl (by omega))];congr 1;omega
  ·rw[if_neg e];rw[r3 i (by omega) h2]
theorem Rot.self_up (d:Array α) (a:Nat):Rot d d a (a+1) (a+1):=Rot.none d (by omega) (Nat.le_refl _) (.inr rfl)
theorem Rot.self_down (d:Array α) (m:Nat):Rot d d m m (m+1):=Rot.none d (Nat.le_refl _) (by omega) (.inl rfl)
variable {lt:α→α→Bool}
theorem SWO.less_down (hS:SWO lt) {x y z:α} (h1:lt z y=false) (h2:lt z x=true):lt y x=true:=by
 cases h:lt y x with
 |true=>rfl
 |false=>rw[hS.ntrans _ _ _ h1 h]at h2;cases h2
theorem SWO.less_up (hS:SWO lt) {x y z:α} (h1:lt y z=false) (h2:lt x z=true):lt x y=true:=by
 cases h:lt x y with
 |true=>rfl
 |false=>rw[hS.ntrans _ _ _ h h1]at h2;cases h2
theorem SWO.less_down2 (hS:SWO lt) {x y z:α} (h1:lt z y=false) (h2:lt z x=true):lt y x=true:=SWO.less_down hS h1 h2
theorem one_up (hS:SWO lt) {d d':Array α} {a i b:Nat} (hai:a+1≤i) (hib:i≤b) (hs:SortedIn lt (a+1) b d) (h1: ∀t,a+1≤t→t<i→lt d[t]! d[a]! =true) (h2: ∀t,i≤t→t<b→lt d[t]! d[a]! =false) (hr:Rot d d' a (a+1) i):SortedIn lt a b d':=by
 obtain⟨r1,r2,r3⟩:=hr
 have v: ∀t,a≤t→t<b→(t+1<i∧d'[t]! =d[t+1]!)∨(t+1=i∧d'[t]! =d[a]!)∨(i≤t∧d'[t]! =d[t]!):=fun t ha hb=>by
  by_cases c1:t+1<i
  ·exact .inl ⟨c1,by rw[r2 t ha (by omega)];congr 1;omega⟩
  ·by_cases c2:t+1=i
   ·exact .inr (.inl ⟨c2,by rw[r3 t (by omega) (by omega)];congr 1;omega⟩)
   ·exact .inr (.inr ⟨by omega,r1 t (by omega)⟩)
 intro p q hp hpq hq
 rcases v p hp (by omega)with⟨c1,e1⟩|⟨c1,e1⟩|⟨c1,e1⟩<;>rcases v q (by omega) hq with⟨c2,e2⟩|⟨c2,e2⟩|⟨c2,e2⟩<;>rw[e1,e2]
 ·exact hs _ _ (by omega) (by omega) (by omega)
 ·exact SWO.asymm hS (h1 _ (by omega) c1)
 ·exact hs _ _ (by omega) (by omega) hq
 ·omega
 ·omega
 ·exact h2 q c2 hq
 ·omega
 ·omega
 ·exact hs _ _ (by omega) hpq hq
theorem one_down (hS:SWO lt) {d d':Array α} {a i m:Nat} (hai:a≤i) (him:i≤m) (hs:SortedIn lt a m d) (h1: ∀t,a≤t→t<i→lt d[m]! d[t]! =false) (h2: ∀t,i≤t→t<m→lt d[m]! d[t]! =true) (hr:Rot d d' i m (m+1)):SortedIn lt a (m+1) d':=by
 obtain⟨r1,r2,r3⟩:=hr
 have v: ∀t,a≤t→t<m+1→(t<i∧d'[t]! =d[t]!)∨(t=i∧d'[t]! =d[m]!)∨(i<t∧d'[t]! =d[t-1]!):=fun t ha hb=>by
  by_cases c1:t<i
  ·exact .inl ⟨c1,r1 t (.inl c1)⟩
  ·by_cases c2:t=i
   ·exact .inr (.inl ⟨c2,by rw[r2 t (by omega) (by omega)];congr 1;omega⟩)
   ·exact .inr (.inr ⟨by omega,by rw[r3 t (by omega) (by omega)];congr 1;omega⟩)
 intro p q hp hpq hq
 rcases v p hp (by omega)with⟨c1,e1⟩|⟨c1,e1⟩|⟨c1,e1⟩<;>rcases v q (by omega) hq with⟨c2,e2⟩|⟨c2,e2⟩|⟨c2,e2⟩<;>rw[e1,e2]
 ·exact hs _ _ hp hpq (by omega)
 ·exact h1 p hp c1
 ·exact hs _ _ hp (by omega) (by omega)
 ·omega
 ·omega
 ·exact SWO.asymm hS (h2 _ (by omega) (by omega))
 ·omega
 ·omega
 ·exact hs _ _ (by omega) (by omega) (by omega)
theorem sym_found (hS:SWO lt) {d:Array α} {a m b mid s s0 r0:Nat} (ham:a<m) (hmb:m<b) (hmid:mid=(a+b)/2) (h0:(mid<m∧s0=mid+m-b∧r0=mid)∨(m≤mid∧s0=a∧r0=m)) (hs0:s0≤s) (hs1:s≤r0)
  (hlo: ∀c,s0≤c→c<s→lt d[mid+m-1-c]! d[c]! =false) (hhi: ∀c,s≤c→c<r0→lt d[mid+m-1-c]! d[c]! =true):
  a≤s∧s≤m∧s≤mid∧m≤mid+m-s∧mid+m-s≤b∧mid≤mid+m-s∧(a<s→mid+m-s<b→lt d[mid+m-s]! d[s-1]! =false)∧(s<m→m<mid+m-s→lt d[mid+m-s-1]! d[s]! =true):=by
 refine⟨by omega,by omega,by omega,by omega,by omega,by omega,fun h1 h2=> ?_,fun h1 h2=> ?_⟩
 ·have:=hlo (s-1) (by omega) (by omega)
  rwa [show mid+m-1-(s-1)=mid+m-s by omega]at this
 ·have:=hhi s (Nat.le_refl _) (by omega)
  rwa [show mid+m-1-s=mid+m-s-1 by omega]at this
theorem sym_mono_lo (hS:SWO lt) {d:Array α} {a m b q c h:Nat} (h1:SortedIn lt a m d) (h2:SortedIn lt m b d) (hc:a≤c) (hch:c≤h) (hh:h<m) (hq:m+h≤q) (hqb:q<b+c) (hx:lt d[q-h]! d[h]! =false):lt d[q-c]! d[c]! =false:=by
 have e1:=SWO.le hS h1 hc hch hh
 have e2:=SWO.le hS h2 (i:=q-h) (j:=q-c) (by omega) (by omega) (by omega)
 exact hS.ntrans _ _ _ (hS.ntrans _ _ _ e2 hx) e1
theorem sym_mono_hi (hS:SWO lt) {d:Array α} {a m b q c h:Nat} (h1:SortedIn lt a m d) (h2:SortedIn lt m b d) (hh:a≤h) (hch:h≤c) (hc:c<m) (hq:m+c≤q) (hqb:q<b+h) (hx:lt d[q-h]! d[h]! =true):lt d[q-c]! d[c]! =true:=by
 have e1:=SWO.le hS h1 hh hch hc
 have e2:=SWO.le hS h2 (i:=q-c) (j:=q-h) (by omega) (by omega) (by omega)
 exact SWO.less_up hS e1 (SWO.less_down hS e2 hx)
end Go.Proofs.YtceddodfddlncaaGreatDoor
