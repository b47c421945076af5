
import Derived.Laws.ResultCell
import Derived.Test.YtceddodfddlncaaGreatDoorJb09
set_option maxRecDepth 100000
set_option maxHeartbeats 16000000
set_option linter.all false
namespace Go.Proofs.YtceddodfddlncaaGreatDoor
open Go Go.RowKit
def zeroJ:J:= .mk 0 0 ⟨#[]⟩ [] []
def getL:List ByteArray→List J→ByteArray→Option J
 |n::r,x::t,name=>if n=name then some x else getL r t name
 |_,_,_=>none
def getJ (v:J) (name:ByteArray):Option J:=if v.kind=5 then getL v.k v.l name else none
def zbm (l:List Int) (i:Nat):Int:=if atL l (i+6)=92∧atL l (i+7)=117 then(hexL l 4 (i+8) 0).1 else-1
def zbq (l:List Int):Nat→Nat→List Int→List Int×Nat×Int
 |0,i,_=>([],i,50)
 |f+1,i,out=>
  if atL l i<32 then([],i,50)
  else if atL l i=34 then(out,i+1,0)
  else if atL l i≠92 then
   (if(nxL (l.drop i)).1<0 then([],i,50)else zbq l f (i+(nxL (l.drop i)).2) (out++(l.drop i).take (nxL (l.drop i)).2))
  else if atL l (i+1)≠117 then
   (if zay (atL l (i+1))=[]then([],i+1,50)else zbq l f (i+2) (out++zay (atL l (i+1))))
  else if(hexL l 4 (i+2) 0).1<0 then([],(hexL l 4 (i+2) 0).2.toNat,50)
  else if(hexL l 4 (i+2) 0).1<55296∨57343<(hexL l 4 (i+2) 0).1 then zbq l f (i+6) (out++putL (hexL l 4 (i+2) 0).1)
  else if 56320≤(hexL l 4 (i+2) 0).1∨zbm l i<56320∨57343<zbm l i then([],i,50)
  else zbq l f (i+12) (out++putL (65536+((hexL l 4 (i+2) 0).1-55296)*1024+zbm l i-56320))
def zan (l:List Int) (i:Nat):List Int×Nat×Int:=if atL l i≠34 then([],i,50)else zbq l (l.length+1) (i+1) []
def hasK (ks:List ByteArray) (t:ByteArray):Bool:=ks.any fun k=>decide (k=t)
def zca (t:ByteArray) (x:J):Bool→List ByteArray→List J→List ByteArray×List J
 |false,[],_=>([t],[x])
 |true,[],_=>([],[])
 |d,k::ks,vs=>
  let r:=zca t x (d|| !Op.bytesLess k.toList t.toList) ks vs.tail
  let own:List ByteArray×List J:=if k=t then([],[])else([k],[vs.headD zeroJ])
  let new:List ByteArray×List J:=if d=false∧Op.bytesLess k.toList t.toList=false then([t],[x])else([],[])
  (new.1++own.1++r.1,new.2++own.2++r.2)
abbrev VR:=J×Nat×Int×Int
def zba (c:Int):Bool:=decide (c=45∨(48≤c∧c≤57)∨c=110∨c=116∨c=102∨c=34∨c=91∨c=123)
def zdh (l:List Int) (left:Int) (v:J) (p:Nat×Int):VR:=if p.2≠0 then(zeroJ,p.1,left,p.2)else(v,zaW l p.1,left,0)
def valF (l:List Int) (many:Nat→Int→VR) (i:Nat) (left:Int):VR:=
 if ¬zba (atL l i)=true then(zeroJ,i,left,50)
 else if left-1<0 then(zeroJ,i,left-1,53)
 else if atL l i=45∨(48≤atL l i∧atL l i≤57)then
  (if zbY (l.drop i)=0 then(zeroJ,i+1,left-1,50)
   else if fitL ((l.drop i).take (zbY (l.drop i))) (-9007199254740991) 9007199254740991=true then(.mk 2 (numL ((l.drop i).take (zbY (l.drop i)))) ⟨#[]⟩ [] [],zaW l (i+zbY (l.drop i)),left-1,0)
   else(zeroJ,i,left-1,41))
 else if atL l i=110 then zdh l (left-1) zeroJ (zci l i [110,117,108,108])
 else if atL l i=116 then zdh l (left-1) (.mk 1 1 ⟨#[]⟩ [] []) (zci l i [116,114,117,101])
 else if atL l i=102 then zdh l (left-1) (.mk 1 0 ⟨#[]⟩ [] []) (zci l i [102,97,108,115,101])
 else if atL l i=34 then zdh l (left-1) (.mk 3 0 (toS (zan l i).1) [] []) (zan l i).2
 else many i (left-1)
def zfa (l:List Int) (val:Nat→Int→VR) (obj:Bool) (go:Nat→Int→List ByteArray→List J→VR) (i:Nat) (left:Int) (t:ByteArray) (ks:List ByteArray) (vs:List J):VR:=
 if(val i left).2.2.2≠0 then(zeroJ,(val i left).2.1,(val i left).2.2.1,(val i left).2.2.2)
 else if atL l (val i left).2.1≠44∧atL l (val i left).2.1≠(if obj then 125 else 93)then(zeroJ,(val i left).2.1,(val i left).2.2.1,50)
 else if obj then go (val i left).2.1 (val i left).2.2.1 (zca t (val i left).1 false ks vs).1 (zca t (val i left).1 false ks vs).2
 else go (val i left).2.1 (val i left).2.2.1 ks (vs++[(val i left).1])
def zfg (l:List Int) (val:Nat→Int→VR) (obj:Bool) (go:Nat→Int→List ByteArray→List J→VR) (i:Nat) (left:Int) (ks:List ByteArray) (vs:List J):VR:=
 if obj then
  (if(zan l i).2.2≠0 then(zeroJ,(zan l i).2.1,left,(zan l i).2.2)
   else if hasK ks (toS (zan l i).1)=true then(zeroJ,i,left,52)
   else if atL l (zaW l (zan l i).2.1)≠58 then(zeroJ,zaW l (zan l i).2.1,left,50)
   else zfa l val obj go (zaW l (zaW l (zan l i).2.1+1)) left (toS (zan l i).1) ks vs)
 else zfa l val obj go i left ⟨#[]⟩ ks vs
def zat (l:List Int) (val:Nat→Int→VR) (obj:Bool):Nat→Bool→Nat→Int→List ByteArray→List J→VR
 |0,_,i,left,_,_=>(zeroJ,i,left,50)
 |f+1,first,i,left,ks,vs=>
  if atL l i=(if obj then 125 else 93)then(.mk (if obj then 5 else 4) 0 ⟨#[]⟩ vs ks,zaW l (i+1),left,0)
  else if first=true then zfg l val obj (zat l val obj f false) i left ks vs
  else if atL l i≠44 then(zeroJ,i,left,50)
  else zfg l val obj (zat l val obj f false) (zaW l (i+1)) left ks vs
def zfK (l:List Int) (val:Nat→Int→VR) (i:Nat) (left:Int):VR:=zat l val (decide (atL l i=123)) (l.length+1) true (zaW l (i+1)) left [] []
def valueL (l:List Int):Nat→Nat→Int→VR
 |0=>valF l fun i left=>(zeroJ,i,left,51)
 |d+1=>valF l (zfK l (valueL l d))
def parseL (l:List Int):J×Int×Int:=
 if 4096<l.length then(zeroJ,2, -1)
 else if(valueL l 8 (zaW l 0) 256).2.2.2≠0 then(zeroJ,(valueL l 8 (zaW l 0) 256).2.2.2,((valueL l 8 (zaW l 0) 256).2.1:Int))
 else if(valueL l 8 (zaW l 0) 256).2.1<l.length then(zeroJ,50,((valueL l 8 (zaW l 0) 256).2.1:Int))
 else((valueL l 8 (zaW l 0) 256).1,0, -1)
theorem hexD_bd (c:Int): -1≤hexD c∧hexD c≤15:=by unfold hexD;split<;>(try split)<;>(try split)<;>omega
theorem zbZ {l:List Int} {i:Nat} (h:atL l i≠ -1):i<l.length:=by
 rcases Nat.lt_or_ge i l.length with h'|h'
 ·exact h'
 ·rw[atL,List.getD_eq_getElem?_getD,List.getElem?_eq_none h']at h
  exact absurd rfl h
theorem zju (c:Int):(zay c=[c]∧(c=34∨c=92∨c=47))∨zay c=[8]∨zay c=[12]∨zay c=[10]∨zay c=[13]∨zay c=[9]∨zay c=[]:=by
 unfold zay
 by_cases h0:c=34∨c=92∨c=47
 ·rw[if_pos h0];exact .inl ⟨rfl,h0⟩
 ·rw[if_neg h0];right
  by_cases h1:c=98
  ·rw[if_pos h1];exact .inl rfl
  ·rw[if_neg h1];right
   by_cases h2:c=102
   ·rw[if_pos h2];exact .inl rfl
   ·rw[if_neg h2];right
    by_cases h3:c=110
    ·rw[if_pos h3];exact .inl rfl
    ·rw[if_neg h3];right
     by_cases h4:c=114
     ·rw[if_pos h4];exact .inl rfl
     ·rw[if_neg h4];right
      by_cases h5:c=116
      ·rw[if_pos h5];exact .inl rfl
      ·rw[if_neg h5];exact .inr rfl
theorem plain_len (c:Int):(zay c).length≤1:=by
 rcases zju c with⟨h,_⟩|h|h|h|h|h|h<;>rw[h]<;>simp
theorem plain_bytes (c:Int):Bytes (zay c):= .of_mem fun x hx=>by
 rcases zju c with⟨h,_⟩|h|h|h|h|h|h<;>rw[h]at hx<;>simp at hx<;>omega
theorem zhK (l:List Int): ∀(f i:Nat) (out:List Int),(zbq l f i out).2.2=0→(zbq l f i out).2.1≤l.length
 |0,i,out,h=>by rw[zbq]at h;exact absurd (show(50:Int)=0 from h) (by decide)
 |f+1,i,out,h=>by
  rw[zbq]at h⊢
  split
  ·rename_i hc;rw[if_pos hc]at h;exact absurd (show(50:Int)=0 from h) (by decide)
  ·rename_i hc;rw[if_neg hc]at h
   split
   ·rename_i h34;exact zbZ (by omega)
   ·rename_i h34;rw[if_neg h34]at h
    split
    ·rename_i h92;rw[if_pos h92]at h
     split
     ·rename_i hx;rw[if_pos hx]at h;exact absurd (show(50:Int)=0 from h) (by decide)
     ·rename_i hx;rw[if_neg hx]at h;exact zhK l f _ _ h
    ·rename_i h92;rw[if_neg h92]at h
     split
     ·rename_i hu;rw[if_pos hu]at h
      split
      ·rename_i hx;rw[if_pos hx]at h;exact absurd (show(50:Int)=0 from h) (by decide)
      ·rename_i hx;rw[if_neg hx]at h;exact zhK l f _ _ h
     ·rename_i hu;rw[if_neg hu]at h
      split
      ·rename_i hx;rw[if_pos hx]at h;exact absurd (show(50:Int)=0 from h) (by decide)
      ·rename_i hx;rw[if_neg hx]at h
       split
       ·rename_i hy;rw[if_pos hy]at h;exact zhK l f _ _ h
       ·rename_i hy;rw[if_neg hy]at h
        split
        ·rename_i hz;rw[if_pos hz]at h;exact absurd (show(50:Int)=0 from h) (by decide)
        ·rename_i hz;rw[if_neg hz]at h;exact zhK l f _ _ h
def zdK (c:Int):Bool:=decide (32≤c∧c≠34∧c≠92)
theorem selfB_iff {c:Int}:zdK c=true↔32≤c∧c≠34∧c≠92:=by unfold zdK;exact decide_eq_true_iff
def zcY (l:List Int) (i:Nat):Nat:=if h:i<l.length then(if zdK (atL l i)then zcY l (i+1)else i)else i
termination_by l.length-i
decreasing_by omega
theorem zhs {l:List Int} {i:Nat} (h:zdK (atL l i)=true):i<l.length:=zbZ (by intro e;rw[e]at h;revert h;decide)
theorem zis {l:List Int} {i:Nat} (h:zdK (atL l i)=true):zcY l i=zcY l (i+1):=by
 rw[zcY,dif_pos (zhs h),if_pos h]
theorem zek {l:List Int} {i:Nat} (h: ¬zdK (atL l i)=true):zcY l i=i:=by
 by_cases hl:i<l.length
 ·rw[zcY,dif_pos hl,if_neg h]
 ·rw[zcY,dif_neg hl]
theorem spanL_le: ∀(n:Nat) (l:List Int) (i:Nat),l.length-i≤n→i≤l.length→i≤zcY l i∧zcY l i≤l.length
 |0,l,i,hn,hi=>by rw[zcY,dif_neg (by omega)];omega
 |n+1,l,i,hn,hi=>by
  rw[zcY]
  split
  ·split
   ·have:=spanL_le n l (i+1) (by omega) (by omega)
    omega
   ·omega
  ·omega
theorem zfj {l:List Int} {i:Nat} (hi:i≤l.length):i≤zcY l i∧zcY l i≤l.length:=spanL_le _ l i (Nat.le_refl _) hi
theorem zjd: ∀(n:Nat) (l:List Int) (i:Nat),l.length-i≤n→ ¬zdK (atL l (zcY l i))=true
 |n,l,i,hn=>by
  by_cases h:zdK (atL l i)=true
  ·have hl:=zhs h
   obtain⟨m,rfl⟩: ∃m,n=m+1:=⟨n-1,by omega⟩
   rw[zis h]
   exact zjd m l (i+1) (by omega)
  ·rw[zek h];exact h
theorem zlJ {l:List Int}: ∀(k i:Nat),(∀m,m<k→zdK (atL l (i+m))=true)→zcY l i=zcY l (i+k)
 |0,i,_=>rfl
 |k+1,i,h=>by
  have h0:zdK (atL l i)=true:=h 0 (by omega)
  rw[zis h0,zlJ k (i+1) fun m hm=>by have:=h (m+1) (by omega);rwa [show i+1+m=i+(m+1)by omega]]
  congr 1;omega
theorem zfb (l:List Int) (i m:Nat):atL (l.drop i) m=atL l (i+m):=by
 simp[atL,List.getD_eq_getElem?_getD,List.getElem?_drop]
theorem putL_big {n:Int} (h:128≤n): ∀x∈putL n,128≤x:=fun x hx=>by
 rcases zcs n with⟨h',_⟩|⟨_,_,h'⟩|⟨_,_,h'⟩|⟨_,_,_,h'⟩|⟨_,_,h'⟩<;>rw[h']at hx<;>simp at hx<;>omega
theorem letter_self {l:List Int} {i:Nat} (hs:zdK (atL l i)=true) (h:(nxL (l.drop i)).1≠ -1): ∀m,m<(nxL (l.drop i)).2→zdK (atL l (i+m))=true:=by
 obtain⟨h1,h2,h3,h4,h5,h6,h7⟩:=zcZ h
 intro m hm
 have hlt:=zhs hs
 rw[List.length_drop]at h4
 by_cases hn:(nxL (l.drop i)).1<128
 ·rw[zea h6 hn]at h2
  have:m=0:=by simp at h2;omega
  subst this;exact hs
 ·have hmem:(l.drop i).getD m 0∈putL (nxL (l.drop i)).1:=by
   rw[h1]
   have hl:m<((l.drop i).take (nxL (l.drop i)).2).length:=by rw[List.length_take,List.length_drop];omega
   have:=List.getElem_mem hl
   rw[List.getElem_take]at this
   rw[List.getD_eq_getElem?_getD,List.getElem?_eq_getElem (by rw[List.length_drop];omega)]
   exact this
  have hbig:=putL_big (by omega) _ hmem
  have e:(l.drop i).getD m 0=atL l (i+m):=by
   rw[atL,List.getD_eq_getElem?_getD,List.getD_eq_getElem?_getD,List.getElem?_drop,List.getElem?_eq_getElem (by omega)]
   rfl
  rw[e]at hbig
  exact selfB_iff.2 ⟨by omega,by omega,by omega⟩
theorem nx_part {l:List Int} {k:Nat} (h:(nxL (l.take k)).1≠ -1):nxL l=nxL (l.take k):=by
 obtain⟨h1,h2,h3,h4,h5,h6,h7⟩:=zcZ h
 rw[List.length_take]at h4
 rw[List.take_take,Nat.min_eq_left (by omega)]at h1
 have:=zlp (l:=l) h7 (by rw[h2];exact h1)
 rw[this,h2]
theorem nx_part' {l:List Int} {k:Nat} (h:(nxL l).1≠ -1) (hk:(nxL l).2≤k):nxL (l.take k)=nxL l:=by
 obtain⟨h1,h2,h3,h4,h5,h6,h7⟩:=zcZ h
 have:=zlp (l:=l.take k) h7 (by rw[h2,List.take_take,Nat.min_eq_left hk];exact h1)
 rw[this,h2]
theorem zds (l:List Int): ∀(f g i:Nat) (out:List Int),l.length-i<f→l.length-i<g→zbq l f i out=zbq l g i out
 |0,_,_,_,h,_=>absurd h (by omega)
 |_+1,0,_,_,_,h=>absurd h (by omega)
 |f+1,g+1,i,out,hf,hg=>by
  rw[zbq,zbq]
  by_cases h32:atL l i<32
  ·rw[if_pos h32,if_pos h32]
  ·rw[if_neg h32,if_neg h32]
   have hi:i<l.length:=zbZ (by omega)
   by_cases h34:atL l i=34
   ·rw[if_pos h34,if_pos h34]
   ·rw[if_neg h34,if_neg h34]
    by_cases h92:atL l i≠92
    ·rw[if_pos h92,if_pos h92]
     by_cases hn:(nxL (l.drop i)).1<0
     ·rw[if_pos hn,if_pos hn]
     ·rw[if_neg hn,if_neg hn]
      have:=zcZ (l:=l.drop i) (by omega)
      exact zds l f g _ _ (by omega) (by omega)
    ·rw[if_neg h92,if_neg h92]
     split
     ·split
      ·rfl
      ·exact zds l f g _ _ (by omega) (by omega)
     ·split
      ·rfl
      ·split
       ·exact zds l f g _ _ (by omega) (by omega)
       ·split
        ·rfl
        ·exact zds l f g _ _ (by omega) (by omega)
def segL (l:List Int) (i:Nat):List Int:=(l.drop i).take (zcY l i-i)
theorem segL_nil {l:List Int} {i:Nat} (h: ¬zdK (atL l i)=true):segL l i=[]:=by
 unfold segL;rw[zek h,Nat.sub_self];rfl
theorem zjz {l:List Int} {i:Nat} (hi:i≤l.length):(segL l i).length=zcY l i-i:=by
 have:=zfj hi
 unfold segL;rw[List.length_take,List.length_drop];omega
theorem zll (l:List Int): ∀(n f g i:Nat) (out:List Int),l.length-i≤n→i≤l.length→l.length-i<f→l.length-i<g→
  zbq l f i out=if badU (segL l i)<zcY l i-i then([],i+badU (segL l i),50)else zbq l g (zcY l i) (out++segL l i):=by
 intro n
 induction n with
 |zero=>
  intro f g i out hn hi hf hg
  have hns: ¬zdK (atL l i)=true:=fun h=>by have:=zhs h;omega
  rw[segL_nil hns,zek hns,Nat.sub_self,if_neg (by omega),List.append_nil]
  exact zds l f g i out hf hg
 |succ n ih=>
  intro f g i out hn hi hf hg
  by_cases hs:zdK (atL l i)=true
  ·have hlt:=zhs hs
   obtain⟨a,b,c⟩:=selfB_iff.1 hs
   have hle:=zfj (l:=l) (i:=i+1) (by omega)
   rw[←zis hs]at hle
   obtain⟨f,rfl⟩: ∃k,f=k+1:=⟨f-1,by omega⟩
   rw[zbq,if_neg (by omega),if_neg b,if_pos c]
   by_cases hx:(nxL (l.drop i)).1= -1
   ·have hseg:(nxL (segL l i)).1= -1:=by
     rcases Classical.em ((nxL (segL l i)).1= -1)with h|h
     ·exact h
     ·have:=nx_part (l:=l.drop i) (k:=zcY l i-i) h
      rw[this]at hx
      exact hx
    rw[if_pos (by omega),zfs hseg,if_pos (by omega)]
    rfl
   ·have hself:=letter_self hs hx
    obtain⟨h1,h2,h3,h4,h5,h6,h7⟩:=zcZ hx
    rw[List.length_drop]at h4
    have hskip:=zlJ _ i hself
    have hle2:=zfj (l:=l) (i:=i+(nxL (l.drop i)).2) (by omega)
    rw[←hskip]at hle2
    have hnx:nxL (segL l i)=nxL (l.drop i):=nx_part' hx (by omega)
    obtain⟨k,hk⟩: ∃k,k=(nxL (l.drop i)).2:=⟨_,rfl⟩
    have hbad:badU (segL l i)=k+badU (segL l (i+k)):=by
     rw[zft (by rw[hnx];exact hx),hnx,←hk]
     congr 2
     unfold segL
     rw[hk,←hskip,List.drop_take,List.drop_drop]
     congr 1;omega
    have happ:segL l i=(l.drop i).take k++segL l (i+k):=by
     unfold segL
     rw[hk,←hskip,←List.drop_drop]
     rw[show zcY l i-i=k+(zcY l i-(i+k))by omega,List.take_add,hk]
    rw[if_neg (by omega),←hk,ih f g (i+k) _ (by omega) (by omega) (by omega) (by omega),hbad,happ,show zcY l (i+k)=zcY l i by rw[hk,←hskip],List.append_assoc]
    by_cases hb:badU (segL l (i+k))<zcY l i-(i+k)
    ·rw[if_pos hb,if_pos (by omega)]
     simp;omega
    ·rw[if_neg hb,if_neg (by omega)]
  ·rw[segL_nil hs,zek hs,Nat.sub_self,if_neg (by omega),List.append_nil]
   exact zds l f g i out hf hg
def codL (l:List Int) (i:Nat):List Int×Nat×Int:=
 if(hexL l 4 (i+2) 0).1<0 then([],(hexL l 4 (i+2) 0).2.toNat,50)
 else if(hexL l 4 (i+2) 0).1<55296∨57343<(hexL l 4 (i+2) 0).1 then(putL (hexL l 4 (i+2) 0).1,i+6,0)
 else if 56320≤(hexL l 4 (i+2) 0).1∨zbm l i<56320∨57343<zbm l i then([],i,50)
 else(putL (65536+((hexL l 4 (i+2) 0).1-55296)*1024+zbm l i-56320),i+12,0)
def escL (l:List Int) (i:Nat):List Int×Nat×Int:=
 if atL l (i+1)≠117 then(if zay (atL l (i+1))=[]then([],i+1,50)else(zay (atL l (i+1)),i+2,0))else codL l i
theorem quotL_esc (l:List Int) (f i:Nat) (out:List Int) (h:atL l i=92):
  zbq l (f+1) i out=if(escL l i).2.2≠0 then([],(escL l i).2.1,50)else zbq l f (escL l i).2.1 (out++(escL l i).1):=by
 rw[zbq,if_neg (by omega),if_neg (by omega),if_neg (fun hn=>hn h)]
 unfold escL codL
 by_cases h1:atL l (i+1)≠117
 ·rw[if_pos h1,if_pos h1]
  by_cases h2:zay (atL l (i+1))=[]
  ·rw[if_pos h2,if_pos h2];rfl
  ·rw[if_neg h2,if_neg h2];rfl
 ·rw[if_neg h1,if_neg h1]
  by_cases h2:(hexL l 4 (i+2) 0).1<0
  ·rw[if_pos h2,if_pos h2];rfl
  ·rw[if_neg h2,if_neg h2]
   by_cases h3:(hexL l 4 (i+2) 0).1<55296∨57343<(hexL l 4 (i+2) 0).1
   ·rw[if_pos h3,if_pos h3];rfl
   ·rw[if_neg h3,if_neg h3]
    by_cases h4:56320≤(hexL l 4 (i+2) 0).1∨zbm l i<56320∨57343<zbm l i
    ·rw[if_pos h4,if_pos h4];rfl
    ·rw[if_neg h4,if_neg h4];rfl
theorem quotL_last (l:List Int) (f i:Nat) (out:List Int) (hs: ¬zdK (atL l i)=true) (h:atL l i≠92):
  zbq l (f+1) i out=if atL l i=34 then(out,i+1,0)else([],i,50):=by
 rw[zbq]
 by_cases h34:atL l i=34
 ·rw[if_neg (by omega),if_pos h34,if_pos h34]
 ·have:atL l i<32:=by
   rcases Int.lt_or_le (atL l i) 32 with h'|h'
   ·exact h'
   ·exact absurd (selfB_iff.2 ⟨h',h34,h⟩) hs
  rw[if_pos this,if_neg h34]
def ldL (l:List Int):Nat→Nat→Int→Int×Nat
 |0,_,n=>(n,0)
 |k+1,i,n=>if hexD (atL l i)<0 then(n,0)else((ldL l k (i+1) (16*n+hexD (atL l i))).1,(ldL l k (i+1) (16*n+hexD (atL l i))).2+1)
theorem znh:hexD (-1)= -1:=by decide
theorem ldL_le (l:List Int): ∀(k i:Nat) (n:Int),(ldL l k i n).2≤k∧(i≤l.length→i+(ldL l k i n).2≤l.length)
 |0,i,n=>by rw[ldL];exact⟨Nat.le_refl _,fun h=>h⟩
 |k+1,i,n=>by
  rw[ldL]
  split
  ·exact⟨Nat.zero_le _,fun h=>h⟩
  ·rename_i hd
   have hi:i<l.length:=zbZ (by intro e;rw[e,znh]at hd;omega)
   have:=ldL_le l k (i+1) (16*n+hexD (atL l i))
   refine⟨by simp;omega,fun _=> ?_⟩
   have:=this.2 (by omega)
   simp;omega
theorem ldL_hex (l:List Int): ∀(k i:Nat) (n:Int),i≤l.length→hexL l k i n=if(ldL l k i n).2=k then((ldL l k i n).1,0)else(-1,((i+(ldL l k i n).2:Nat):Int))
 |0,i,n,_=>by rw[ldL,hexL,if_pos rfl]
 |k+1,i,n,hi=>by
  rw[ldL,hexL]
  split
  ·rw[if_neg (by simp)]
   rw[Nat.min_eq_left hi];simp
  ·rename_i hd
   have hi:i<l.length:=zbZ (by intro e;rw[e,znh]at hd;omega)
   rw[ldL_hex l k (i+1) _ (by omega)]
   by_cases h:(ldL l k (i+1) (16*n+hexD (atL l i))).2=k
   ·rw[if_pos h,if_pos (by simp;exact h)]
   ·rw[if_neg h,if_neg (by simp;exact h)]
    simp;omega
theorem ldL_bd (l:List Int): ∀(k i:Nat) (n:Int),0≤n→0≤(ldL l k i n).1∧(ldL l k i n).1<(n+1)*16^(ldL l k i n).2
 |0,i,n,h=>by rw[ldL];simp;omega
 |k+1,i,n,h=>by
  rw[ldL]
  split
  ·simp;omega
  ·rename_i hd
   have hb:=hexD_bd (atL l i)
   have:=ldL_bd l k (i+1) (16*n+hexD (atL l i)) (by omega)
   refine⟨this.1,Int.lt_of_lt_of_le this.2 ?_⟩
   show(16*n+hexD (atL l i)+1)*16^(ldL l k (i+1) (16*n+hexD (atL l i))).2≤(n+1)*16^((ldL l k (i+1) (16*n+hexD (atL l i))).2+1)
   rw[Int.pow_succ,Int.mul_comm (16^_) 16,←Int.mul_assoc]
   refine Int.mul_le_mul_of_nonneg_right (by omega) (Int.le_of_lt (Int.pow_pos (by decide)))
theorem ziy (l:List Int) (a:Nat): ∀(k i:Nat) (n:Int),ldL (l.drop a) k i n=ldL l k (a+i) n
 |0,i,n=>rfl
 |k+1,i,n=>by
  rw[ldL,ldL,zfb,ziy l a k (i+1)]
  rfl
theorem ld4_bd (l:List Int) (i:Nat):0≤(ldL l 4 i 0).1∧(ldL l 4 i 0).1≤65535∧((ldL l 4 i 0).2≠4→(ldL l 4 i 0).1≤4095)∧(ldL l 4 i 0).2≤4:=by
 have h:=ldL_bd l 4 i 0 (by decide)
 have hk:=(ldL_le l 4 i 0).1
 obtain⟨m,hm⟩: ∃m,m=(ldL l 4 i 0).2:=⟨_,rfl⟩
 rw[←hm]at h hk⊢
 have:m=0∨m=1∨m=2∨m=3∨m=4:=by omega
 rcases this with rfl|rfl|rfl|rfl|rfl<;>omega
theorem halfL_ld (l:List Int) (i:Nat):zbm l i=if atL l (i+6)=92∧atL l (i+7)=117 then(if(ldL l 4 (i+8) 0).2=4 then(ldL l 4 (i+8) 0).1 else-1)else-1:=by
 unfold zbm
 split
 ·rename_i h
  have h7:i+7<l.length:=zbZ (by omega)
  rw[ldL_hex l 4 (i+8) 0 (by omega)]
  split<;>rfl
 ·rfl
theorem codL_ld (l:List Int) (i:Nat) (hi:i+1<l.length):codL l i=
  if(ldL l 4 (i+2) 0).2≠4 then([],i+2+(ldL l 4 (i+2) 0).2,50)
  else if 56320≤(ldL l 4 (i+2) 0).1∧(ldL l 4 (i+2) 0).1<57344 then([],i,50)
  else if 55296≤(ldL l 4 (i+2) 0).1∧(ldL l 4 (i+2) 0).1<56320 then
   (if zbm l i<56320∨57343<zbm l i then([],i,50)else(putL (65536+((ldL l 4 (i+2) 0).1-55296)*1024+zbm l i-56320),i+12,0))
  else(putL (ldL l 4 (i+2) 0).1,i+6,0):=by
 unfold codL
 have hb:=ld4_bd l (i+2)
 rw[ldL_hex l 4 (i+2) 0 (by omega)]
 by_cases h4:(ldL l 4 (i+2) 0).2=4
 ·rw[if_pos h4,if_neg (show ¬(ldL l 4 (i+2) 0).2≠4 from fun h=>h h4)]
  obtain⟨m,hm⟩: ∃m,m=(ldL l 4 (i+2) 0).1:=⟨_,rfl⟩
  rw[←hm]at hb⊢
  show(if m<0 then _ else if m<55296∨57343<m then _ else if 56320≤m∨_ then _ else _)=_
  rw[if_neg (by omega)]
  by_cases h1:m<55296∨57343<m
  ·rw[if_pos h1,if_neg (by omega),if_neg (by omega)]
  ·rw[if_neg h1]
   by_cases h2:56320≤m
   ·rw[if_pos (.inl h2),if_pos (by omega)]
   ·by_cases h3:zbm l i<56320∨57343<zbm l i
    ·rw[if_pos (.inr h3),if_neg (show ¬(56320≤m∧m<57344)by omega),if_pos (show 55296≤m∧m<56320 by omega),if_pos h3]
    ·rw[if_neg (show ¬(56320≤m∨zbm l i<56320∨57343<zbm l i)by omega),if_neg (show ¬(56320≤m∧m<57344)by omega),if_pos (show 55296≤m∧m<56320 by omega),if_neg h3]
 ·rw[if_neg h4,if_pos h4]
  rw[if_pos (show(-1:Int)<0 by decide)]
  rfl
abbrev Rdr (w:World) (rb:Nat) (s:ByteArray) (i n:Int):Prop:=Blk w rb 192 [.string s,.int .i64 i,.int .i64 n]
def flt (p n:Int):List PanicEntry:=[{v:= .iface 187 (.agg #[.int .i64 p,.iface 54 (.int .i64 n)]),recovered:=false}]
theorem zbf (p n:Int) (w:World):Calls Tryz.prog 130 #[.int .i64 p,.iface 54 (.int .i64 n)] w fun e w'=>e= .panicked (flt p n)∧w=w':=by
 go_enter Tryz.func130,Tryz.ntmps130
 go_wp2
 exact⟨rfl,rfl,rfl⟩
theorem Rdr.cells {w:World} {rb:Nat} {s:ByteArray} {i n:Int} (h:Rdr w rb s i n):(w.cell? ⟨rb,0,none⟩=some (.string s)∧w.cell? ⟨rb,1,none⟩=some (.int .i64 i)∧w.cell? ⟨rb,2,none⟩=some (.int .i64 n))∧
  (w.frozen? ⟨rb,0,none⟩=false∧w.frozen? ⟨rb,1,none⟩=false∧w.frozen? ⟨rb,2,none⟩=false):=⟨⟨h.cell 0,h.cell 1,h.cell 2⟩,h.frozen 0,h.frozen 1,h.frozen 2⟩
theorem Rdr.goes {w:World} {rb:Nat} {s:ByteArray} {i n:Int} (h:Rdr w rb s i n) (j:Int):Rdr (w.setCell ⟨rb,1,none⟩ (.int .i64 j)) rb s j n:=Blk.setCell h 1 (.int .i64 j)
def ahL (l:List Int) (i:Nat):Int:=if atL l i= -1 then 0 else atL l i
theorem zbi (rb:Nat) (s:ByteArray) (i:Nat) (n:Int) (w:World) (h:Rdr w rb s i n) (hi:i≤s.size) (hs:s.size≤1000000):
  Calls Tryz.prog 160 #[.pointer (some ⟨rb,0,none⟩)] w fun e w'=>e= .returned (.int .u8 (ahL (strL s) i))∧ ∃q,w'=w.drewN q:=by
 obtain⟨⟨c0,c1,c2⟩,f0,f1,f2⟩:=h.cells
 clear h
 by_cases hlt:i<s.size
 ·have HA:Hid (ahL (strL s) i=(s[i].toNat:Int)):=Lib.hid (by unfold ahL;rw[atL_get s i hlt];exact if_neg (by omega))
  have h1:((i:Int)==(s.size:Int))=false:=by rw[beq_eq_false_iff_ne];omega
  have h2:(i:Int)<(s.size:Int):=by omega
  have h3:(0:Int)≤(i:Int):=by omega
  go_enter Tryz.func160,Tryz.ntmps160
  go_wp2
  go_quiet (fail)
  go_wp2
  go_quiet (fail)
  go_wp2
  go_ret
  exact⟨by rw[HA.out];rfl,_,World.drewN_drewN _ _ _⟩
 ·obtain rfl:i=s.size:=by omega
  have HA:Hid (ahL (strL s) s.size=0):=Lib.hid (by unfold ahL;rw[atL_end s s.size (Nat.le_refl _)];rfl)
  have h1:((s.size:Int)==(s.size:Int))=true:=beq_self_eq_true _
  go_enter Tryz.func160,Tryz.ntmps160
  go_wp2
  go_quiet (fail)
  go_wp2
  go_ret
  exact⟨by rw[HA.out];rfl,_,rfl⟩
abbrev zcg (w w':World) (rb:Nat) (s:ByteArray) (i n:Int):Prop:=w.grownBy w' (some rb)∧Rdr w' rb s i n
abbrev ziJ (w:World) (rb:Nat) (p n:Int) (e:Ending) (w':World):Prop:=e= .panicked (flt p n)∧w.grownBy w' (some rb)
theorem zbe {w:World} (q:Nat) (row:Option Nat):w.grownBy (w.drewN q) row:=zhj (zaY w row) q
theorem zag (w:World) (q rb j:Nat) (v:Value):w.grownBy ((w.drewN q).setCell ⟨rb,j,none⟩ v) (some rb):=(zbe q _).trans (zaV _ rb j v)
theorem zff {l:List Int} {i:Nat} {c:Int} (hc:0<c):ahL l i=c↔atL l i=c:=by
 unfold ahL;split
 ·rename_i h;rw[h];omega
 ·exact Iff.rfl
theorem zme {l:List Int} {i:Nat} {c:Int} (hc:0<c) (h:atL l i≠c):ahL l i≠c:=fun e=>h ((zff hc).1 e)
theorem zfy (rb:Nat) (s:ByteArray) (i:Nat) (n:Int) (c:Int) (w:World) (h:Rdr w rb s i n) (hs:s.size≤1000000) (hc0:0<c) (hc:atL (strL s) i=c):
  Calls Tryz.prog 188 #[.pointer (some ⟨rb,0,none⟩),.int .u8 c] w fun e w'=>e= .returned (.tuple #[])∧zcg w w' rb s (i+1:Nat) n:=by
 have hi:i<s.size:=by rw[←zaQ];exact zbZ (by omega)
 have HA:=Lib.hid (zbi rb s i n w h (by omega) hs)
 rw[(zff hc0).2 hc]at HA
 have HR:=Lib.hid h
 obtain⟨⟨c0,c1,c2⟩,f0,f1,f2⟩:=h.cells
 have hne:(c !=c)=false:=by simp
 clear h hc
 go_enter Tryz.func188,Tryz.ntmps188
 go_wp2_with(go_at_call 160;(with_reducible refine HA.out.mono ?_);rintro e w' ⟨rfl,q,rfl⟩)
 go_end0
 exact⟨rfl,zag w q rb 1 _,Rdr.goes (HR.out.drewN q) _⟩
theorem zji (rb:Nat) (s:ByteArray) (i:Nat) (n:Int) (c:Int) (w:World) (h:Rdr w rb s i n) (hi:i≤s.size) (hs:s.size≤1000000) (hc0:0<c) (hc:atL (strL s) i≠c):
  Calls Tryz.prog 188 #[.pointer (some ⟨rb,0,none⟩),.int .u8 c] w (ziJ w rb i 50):=by
 have HA:=Lib.hid (zbi rb s i n w h hi hs)
 have hne:(ahL (strL s) i !=c)=true:=by simpa using zme hc0 hc
 obtain⟨⟨c0,c1,c2⟩,f0,f1,f2⟩:=h.cells
 obtain⟨x,hx⟩: ∃x,x=ahL (strL s) i:=⟨_,rfl⟩
 rw[←hx]at HA hne
 clear h hc hx
 go_enter Tryz.func188,Tryz.ntmps188
 go_wp2_with(first|(go_at_call 160;(with_reducible refine HA.out.mono ?_);rintro e w' ⟨rfl,q,rfl⟩)|(go_at_call 130;(with_reducible refine(zbf _ _ _).mono ?_);rintro e w' ⟨rfl,rfl⟩))
 exact⟨rfl,rfl,zbe q _⟩
theorem self_any (c:Int) (w:World) (h0:0≤c) (h1:c≤255):Calls Tryz.prog 203 #[.int .u8 c] w fun e w'=>e= .returned (.bool (zdK c))∧w=w':=by
 by_cases a:32≤c
 ·by_cases b:c=34
  ·subst b
   go_enter Tryz.func203,Tryz.ntmps203
   go_wp2
   go_ret
   exact⟨rfl,rfl⟩
  ·by_cases d:c=92
   ·subst d
    go_enter Tryz.func203,Tryz.ntmps203
    go_wp2
    go_ret
    exact⟨rfl,rfl⟩
   ·have hs:zdK c=true:=selfB_iff.2 ⟨a,b,d⟩
    rw[hs]
    have b1:(c !=34)=true:=by simpa using b
    have d1:(c !=92)=true:=by simpa using d
    clear hs b d
    go_enter Tryz.func203,Tryz.ntmps203
    go_wp2
    go_ret
    exact⟨rfl,rfl⟩
 ·have hs:zdK c=false:=by
   cases h:zdK c with
   |false=>rfl
   |true=>exact absurd (selfB_iff.1 h).1 a
  rw[hs]
  have a1:decide (32≤c)=false:=decide_eq_false a
  clear hs
  go_enter Tryz.func203,Tryz.ntmps203
  go_wp2
  go_ret
  exact⟨rfl,rfl⟩
theorem hexWorth_any (c:Int) (w:World) (h0:0≤c) (h1:c≤255):Calls Tryz.prog 224 #[.int .u8 c] w fun e w'=>e= .returned (.int .i64 (hexD c))∧w=w':=by
 by_cases a:48≤c∧c≤57
 ·have hs:hexD c=c-48:=if_pos a
  obtain⟨a0,a1⟩:=a
  rw[hs];clear hs
  go_enter Tryz.func224,Tryz.ntmps224
  go_wp2
  go_ret
  exact⟨rfl,rfl⟩
 ·have ha:(48≤c→ ¬c≤57):=fun x y=>a ⟨x,y⟩
  by_cases b:97≤c∧c≤102
  ·have hs:hexD c=c-97+10:=by unfold hexD;rw[if_neg a,if_pos b]
   obtain⟨b0,b1⟩:=b
   have a0:(48:Int)≤c:=by omega
   have a1:decide (c≤57)=false:=decide_eq_false (by omega)
   rw[hs];clear hs a ha
   go_enter Tryz.func224,Tryz.ntmps224
   go_wp2
   go_ret
   exact⟨rfl,rfl⟩
  ·by_cases d:65≤c∧c≤70
   ·have hs:hexD c=c-65+10:=by unfold hexD;rw[if_neg a,if_neg b,if_pos d]
    obtain⟨d0,d1⟩:=d
    have a0:(48:Int)≤c:=by omega
    have a1:decide (c≤57)=false:=decide_eq_false (by omega)
    have b0:decide (97≤c)=false:=decide_eq_false (by omega)
    rw[hs];clear hs a ha b
    go_enter Tryz.func224,Tryz.ntmps224
    go_wp2
    go_ret
    exact⟨rfl,rfl⟩
   ·have hs:hexD c= -1:=by unfold hexD;rw[if_neg a,if_neg b,if_neg d]
    rw[hs];clear hs
    obtain⟨X,hX⟩: ∃X,X=decide (48≤c):=⟨_,rfl⟩
    have hc:c<48∨(57<c∧c<65)∨(70<c∧c<97)∨102<c:=by omega
    clear a ha b d hX
    rcases hc with hc|⟨hc,hd⟩|⟨hc,hd⟩|hc
    ·have a1:decide (48≤c)=false:=decide_eq_false (by omega)
     have a2:decide (65≤c)=false:=decide_eq_false (by omega)
     have a3:decide (97≤c)=false:=decide_eq_false (by omega)
     go_enter Tryz.func224,Tryz.ntmps224
     go_wp2
     go_ret
     exact⟨rfl,rfl⟩
    ·have a1:decide (48≤c)=true:=decide_eq_true (by omega)
     have a4:decide (c≤57)=false:=decide_eq_false (by omega)
     have a2:decide (65≤c)=false:=decide_eq_false (by omega)
     have a3:decide (97≤c)=false:=decide_eq_false (by omega)
     go_enter Tryz.func224,Tryz.ntmps224
     go_wp2
     go_ret
     exact⟨rfl,rfl⟩
    ·have a1:decide (48≤c)=true:=decide_eq_true (by omega)
     have a4:decide (c≤57)=false:=decide_eq_false (by omega)
     have a2:decide (65≤c)=true:=decide_eq_true (by omega)
     have a5:decide (c≤70)=false:=decide_eq_false (by omega)
     have a3:decide (97≤c)=false:=decide_eq_false (by omega)
     go_enter Tryz.func224,Tryz.ntmps224
     go_wp2
     go_ret
     exact⟨rfl,rfl⟩
    ·have a1:decide (48≤c)=true:=decide_eq_true (by omega)
     have a4:decide (c≤57)=false:=decide_eq_false (by omega)
     have a2:decide (65≤c)=true:=decide_eq_true (by omega)
     have a5:decide (c≤70)=false:=decide_eq_false (by omega)
     have a3:decide (97≤c)=true:=decide_eq_true (by omega)
     have a6:decide (c≤102)=false:=decide_eq_false (by omega)
     go_enter Tryz.func224,Tryz.ntmps224
     go_wp2
     go_ret
     exact⟨rfl,rfl⟩
theorem short_any (c:Int) (w:World) (h0:0≤c) (h1:c≤255):Calls Tryz.prog 205 #[.int .u8 c] w fun e w'=>e= .returned (.string (toS (zay c)))∧w'=w:=by
 by_cases h:c=34∨c=92∨c=47∨c=98∨c=102∨c=110∨c=114∨c=116
 ·rcases h with rfl|rfl|rfl|rfl|rfl|rfl|rfl|rfl
  ·rw[show toS (zay 34)=⟨#[34]⟩by decide]
   go_enter Tryz.func205,Tryz.ntmps205
   go_wp2
   go_ret
   exact⟨rfl,rfl⟩
  ·rw[show toS (zay 92)=⟨#[92]⟩by decide]
   go_enter Tryz.func205,Tryz.ntmps205
   go_wp2
   go_ret
   exact⟨rfl,rfl⟩
  ·rw[show toS (zay 47)=⟨#[47]⟩by decide]
   go_enter Tryz.func205,Tryz.ntmps205
   go_wp2
   go_ret
   exact⟨rfl,rfl⟩
  ·rw[show toS (zay 98)=⟨#[8]⟩by decide]
   go_enter Tryz.func205,Tryz.ntmps205
   go_wp2
   go_ret
   exact⟨rfl,rfl⟩
  ·rw[show toS (zay 102)=⟨#[12]⟩by decide]
   go_enter Tryz.func205,Tryz.ntmps205
   go_wp2
   go_ret
   exact⟨rfl,rfl⟩
  ·rw[show toS (zay 110)=⟨#[10]⟩by decide]
   go_enter Tryz.func205,Tryz.ntmps205
   go_wp2
   go_ret
   exact⟨rfl,rfl⟩
  ·rw[show toS (zay 114)=⟨#[13]⟩by decide]
   go_enter Tryz.func205,Tryz.ntmps205
   go_wp2
   go_ret
   exact⟨rfl,rfl⟩
  ·rw[show toS (zay 116)=⟨#[9]⟩by decide]
   go_enter Tryz.func205,Tryz.ntmps205
   go_wp2
   go_ret
   exact⟨rfl,rfl⟩
 ·have e:toS (zay c)=⟨#[]⟩:=by
   unfold zay
   rw[if_neg (by omega),if_neg (by omega),if_neg (by omega),if_neg (by omega),if_neg (by omega),if_neg (by omega)]
   rfl
  rw[e]
  have n34:(c==34)=false:=by rw[beq_eq_false_iff_ne];omega
  have n92:(c==92)=false:=by rw[beq_eq_false_iff_ne];omega
  have n47:(c==47)=false:=by rw[beq_eq_false_iff_ne];omega
  have n98:(c==98)=false:=by rw[beq_eq_false_iff_ne];omega
  have n102:(c==102)=false:=by rw[beq_eq_false_iff_ne];omega
  have n110:(c==110)=false:=by rw[beq_eq_false_iff_ne];omega
  have n114:(c==114)=false:=by rw[beq_eq_false_iff_ne];omega
  have n116:(c==116)=false:=by rw[beq_eq_false_iff_ne];omega
  clear e h
  go_enter Tryz.func205,Tryz.ntmps205
  go_wp2
  go_ret
  exact⟨rfl,rfl⟩
def RepKS (W:World) (S:Nat→Prop) (k:List ByteArray) (v:Value):Prop:=
 ∃A c,v= .slice A k.length c∧k.length≤9223372036854775807∧(k≠[]→ ∃b o,A=some ⟨b,o,none⟩∧S b∧b<W.heap.size∧ ∀i,i<k.length→ ∃t,k[i]? =some t∧t.size≤9223372036854775807∧W.cell? ⟨b,o+i,none⟩=some (.string t))
mutual
def RepS (W:World) (S:Nat→Prop):J→Value→Prop
 | .mk kind n s l k,v=> ∃vk A c,v= .agg #[.int .i64 kind,.int .i64 n,.string s,.slice A l.length c,vk]∧s.size≤9223372036854775807∧RepKS W S k vk∧l.length≤9223372036854775807∧
  (l≠[]→ ∃b o,A=some ⟨b,o,none⟩∧S b∧b<W.heap.size∧RepCS W S b o l)
def RepCS (W:World) (S:Nat→Prop) (b o:Nat):List J→Prop
 |[]=>True
 |x::r=>(∃v,RepS W S x v∧Five W b o v)∧RepCS W S b (o+5) r
end
def Keeps (S:Nat→Prop) (W W':World):Prop:=W.heap.size≤W'.heap.size∧ ∀b,S b→b<W.heap.size→W'.heap[b]? =W.heap[b]?
theorem Keeps.cell {S:Nat→Prop} {W W':World} (h:Keeps S W W') {b:Nat} (hS:S b) (hb:b<W.heap.size) (o:Nat):W'.cell? ⟨b,o,none⟩=W.cell? ⟨b,o,none⟩:=by
 simp[World.cell?,h.2 b hS hb]
theorem Keeps.refl (S:Nat→Prop) (W:World):Keeps S W W:=⟨Nat.le_refl _,fun _ _ _=>rfl⟩
theorem Keeps.trans {S:Nat→Prop} {W W' W2:World} (h:Keeps S W W') (h2:Keeps S W' W2):Keeps S W W2:=⟨Nat.le_trans h.1 h2.1,fun b hS hb=>(h2.2 b hS (Nat.lt_of_lt_of_le hb h.1)).trans (h.2 b hS hb)⟩
theorem Keeps.below {S:Nat→Prop} {W W':World} {B:Nat} (h:Below B W W') (hS: ∀b,S b→b<W.heap.size→b<B):Keeps S W W':=⟨h.size,fun b hb hl=>h.block b (hS b hb hl)⟩
theorem Keeps.grown {S:Nat→Prop} {W W':World} {row:Option Nat} (h:W.grownBy W' row) (hS: ∀b,S b→some b≠row):Keeps S W W':=⟨h.size,fun b hb hl=>h.block b hl (hS b hb)⟩
theorem RepKS.keeps {S T:Nat→Prop} {W W':World} {k:List ByteArray} {v:Value} (h:RepKS W S k v) (hk:Keeps S W W') (hT: ∀b,S b→b<W.heap.size→T b):RepKS W' T k v:=by
 obtain⟨A,c,e,hl,hc⟩:=h
 refine⟨A,c,e,hl,fun hne=> ?_⟩
 obtain⟨b,o,e1,hS,hlt,hcs⟩:=hc hne
 refine⟨b,o,e1,hT b hS hlt,Nat.lt_of_lt_of_le hlt hk.1,fun i hi=> ?_⟩
 obtain⟨t,h1,h2,h3⟩:=hcs i hi
 exact⟨t,h1,h2,(hk.cell hS hlt _).trans h3⟩
theorem Five.keeps {S:Nat→Prop} {W W':World} {b o:Nat} {v:Value} (h:Five W b o v) (hS:S b) (hlt:b<W.heap.size) (hk:Keeps S W W'):Five W' b o v:=by
 obtain⟨a0,a1,a2,a3,a4,e,h0,h1,h2,h3,h4⟩:=h
 exact⟨a0,a1,a2,a3,a4,e,(hk.cell hS hlt _).trans h0,(hk.cell hS hlt _).trans h1,(hk.cell hS hlt _).trans h2,(hk.cell hS hlt _).trans h3,(hk.cell hS hlt _).trans h4⟩
theorem RepS.keeps {S T:Nat→Prop} {W W':World} (hk:Keeps S W W') (hT: ∀b,S b→b<W.heap.size→T b): ∀(j:J) (v:Value),RepS W S j v→RepS W' T j v:=fun j=>by
 induction j using J.ind with
 |h kind n s l k ih=>
  intro v h
  rw[RepS]at h⊢
  obtain⟨vk,A,c,e,hs,hkk,hl,hc⟩:=h
  refine⟨vk,A,c,e,hs,hkk.keeps hk hT,hl,fun hne=> ?_⟩
  obtain⟨b,o,e1,hS,hlt,hcs⟩:=hc hne
  refine⟨b,o,e1,hT b hS hlt,Nat.lt_of_lt_of_le hlt hk.1,?_⟩
  have key: ∀(l:List J) (o:Nat),(∀x∈l,∀v,RepS W S x v→RepS W' T x v)→RepCS W S b o l→RepCS W' T b o l:=fun l=>by
   induction l with
   |nil=>intro o _ _;rw[RepCS];trivial
   |cons x r ihr=>
    intro o ih h
    rw[RepCS]at h⊢
    obtain⟨⟨v,h1,h2⟩,h3⟩:=h
    exact⟨⟨v,ih x (by simp) v h1,h2.keeps hS hlt hk⟩,ihr (o+5) (fun y hy=>ih y (List.mem_cons_of_mem _ hy)) h3⟩
  exact key l o ih hcs
theorem RepS.toJ {S:Nat→Prop} {W:World}: ∀(j:J) (v:Value),RepS W S j v→RepJ W j v:=fun j=>by
 induction j using J.ind with
 |h kind n s l k ih=>
  intro v h
  rw[RepS]at h
  rw[RepJ]
  obtain⟨vk,A,c,e,hs,⟨K,d,ek,hkl,hkc⟩,hl,hc⟩:=h
  refine⟨vk,A,c,e,hs,⟨K,d,ek,hkl,fun hne=> ?_⟩,hl,fun hne=> ?_⟩
  ·obtain⟨b,o,e1,_,hlt,hcs⟩:=hkc hne
   exact⟨b,o,e1,hlt,hcs⟩
  ·obtain⟨b,o,e1,hS,hlt,hcs⟩:=hc hne
   refine⟨b,o,e1,hlt,?_⟩
   have key: ∀(l:List J) (o:Nat),(∀x∈l,∀v,RepS W S x v→RepJ W x v)→RepCS W S b o l→RepC W b o l:=fun l=>by
    induction l with
    |nil=>intro o _ _;rw[RepC];trivial
    |cons x r ihr=>
     intro o ih h
     rw[RepCS]at h
     rw[RepC]
     obtain⟨⟨v,h1,h2⟩,h3⟩:=h
     exact⟨⟨v,ih x (by simp) v h1,h2⟩,ihr (o+5) (fun y hy=>ih y (List.mem_cons_of_mem _ hy)) h3⟩
   exact key l o ih hcs
theorem RepS.ofJ {W:World}: ∀(j:J) (v:Value),RepJ W j v→RepS W (fun _=>True) j v:=fun j=>by
 induction j using J.ind with
 |h kind n s l k ih=>
  intro v h
  rw[RepJ]at h
  rw[RepS]
  obtain⟨vk,A,c,e,hs,⟨K,d,ek,hkl,hkc⟩,hl,hc⟩:=h
  refine⟨vk,A,c,e,hs,⟨K,d,ek,hkl,fun hne=> ?_⟩,hl,fun hne=> ?_⟩
  ·obtain⟨b,o,e1,hlt,hcs⟩:=hkc hne
   exact⟨b,o,e1,trivial,hlt,hcs⟩
  ·obtain⟨b,o,e1,hlt,hcs⟩:=hc hne
   refine⟨b,o,e1,trivial,hlt,?_⟩
   have key: ∀(l:List J) (o:Nat),(∀x∈l,∀v,RepJ W x v→RepS W (fun _=>True) x v)→RepC W b o l→RepCS W (fun _=>True) b o l:=fun l=>by
    induction l with
    |nil=>intro o _ _;rw[RepCS];trivial
    |cons x r ihr=>
     intro o ih h
     rw[RepC]at h
     rw[RepCS]
     obtain⟨⟨v,h1,h2⟩,h3⟩:=h
     exact⟨⟨v,ih x (by simp) v h1,h2⟩,ihr (o+5) (fun y hy=>ih y (List.mem_cons_of_mem _ hy)) h3⟩
   exact key l o ih hcs
theorem RepS.open {W:World} {S:Nat→Prop} {j:J} {v:Value} (h:RepS W S j v): ∃vk A c,v= .agg #[.int .i64 j.kind,.int .i64 j.n,.string j.s,.slice A j.l.length c,vk]∧j.s.size≤9223372036854775807∧RepKS W S j.k vk∧j.l.length≤9223372036854775807∧
  (j.l≠[]→ ∃b o,A=some ⟨b,o,none⟩∧S b∧b<W.heap.size∧RepCS W S b o j.l):=by
 cases j;rw[RepS]at h;exact h
def FlatJ (W:World) (S:Nat→Prop):List J→List Value→Prop
 |[],xs=>xs=[]
 |x::r,xs=> ∃a0 a1 a2 a3 a4 ys,xs=a0::a1::a2::a3::a4::ys∧RepS W S x (.agg #[a0,a1,a2,a3,a4])∧FlatJ W S r ys
theorem FlatJ.keeps {S T:Nat→Prop} {W W':World} (hk:Keeps S W W') (hT: ∀b,S b→b<W.heap.size→T b): ∀{l:List J} {xs:List Value},FlatJ W S l xs→FlatJ W' T l xs
 |[],xs,h=>h
 |x::r,xs,h=>by
  obtain⟨a0,a1,a2,a3,a4,ys,e,h1,h2⟩:=h
  exact⟨a0,a1,a2,a3,a4,ys,e,RepS.keeps hk hT _ _ h1,FlatJ.keeps hk hT h2⟩
theorem FlatJ.snoc {S:Nat→Prop} {W:World} {x:J} {a0 a1 a2 a3 a4:Value} (hx:RepS W S x (.agg #[a0,a1,a2,a3,a4])): ∀{l:List J} {xs:List Value},FlatJ W S l xs→FlatJ W S (l++[x]) (xs++[a0,a1,a2,a3,a4])
 |[],xs,h=>by
  obtain rfl:xs=[]:=h
  exact⟨a0,a1,a2,a3,a4,[],rfl,hx,rfl⟩
 |y::r,xs,h=>by
  obtain⟨b0,b1,b2,b3,b4,ys,e,h1,h2⟩:=h
  exact⟨b0,b1,b2,b3,b4,ys++[a0,a1,a2,a3,a4],by rw[e];rfl,h1,FlatJ.snoc hx h2⟩
theorem FlatJ.length {S:Nat→Prop} {W:World}: ∀{l:List J} {xs:List Value},FlatJ W S l xs→xs.length=l.length*5
 |[],xs,h=>by obtain rfl:xs=[]:=h;rfl
 |x::r,xs,h=>by
  obtain⟨a0,a1,a2,a3,a4,ys,e,h1,h2⟩:=h
  rw[e,List.length_cons,List.length_cons,List.length_cons,List.length_cons,List.length_cons,h2.length,List.length_cons]
  omega
theorem FlatJ.cells {S T:Nat→Prop} {W:World} {b:Nat} (hT: ∀b,S b→b<W.heap.size→T b): ∀{l:List J} {xs:List Value} {o:Nat},FlatJ W S l xs→(∀j u,xs[j]? =some u→W.cell? ⟨b,o+j,none⟩=some u)→RepCS W T b o l
 |[],xs,o,_,_=>by rw[RepCS];trivial
 |x::r,xs,o,h,hc=>by
  obtain⟨a0,a1,a2,a3,a4,ys,e,h1,h2⟩:=h
  subst e
  rw[RepCS]
  refine⟨⟨_,RepS.keeps (Keeps.refl S W) hT _ _ h1,a0,a1,a2,a3,a4,rfl,hc 0 a0 rfl,hc 1 a1 rfl,hc 2 a2 rfl,hc 3 a3 rfl,hc 4 a4 rfl⟩,?_⟩
  refine h2.cells hT fun j u hu=> ?_
  have:=hc (j+5) u (by simpa using hu)
  rwa [show o+5+j=o+(j+5)by omega]
theorem own_list {W:World} {S T:Nat→Prop} {base:Nat} {v:Value} {l:List J} {xs:List Value} (hown:W.ownsRow base 63 5 v l.length xs) (hf:FlatJ W S l xs) (hT: ∀b,S b→b<W.heap.size→T b) (hb: ∀b,base≤b→T b):
  ∃A c,v= .slice A l.length c∧(l≠[]→ ∃b o,A=some ⟨b,o,none⟩∧T b∧b<W.heap.size∧RepCS W T b o l):=by
 rcases hown.2 with⟨rfl,h0⟩|⟨g,cap,cur,rfl,hg,hcell,hle,hm,_⟩
 ·refine⟨none,0,by rw[h0],fun hne=> ?_⟩
  exact absurd (List.eq_nil_of_length_eq_zero h0) hne
 ·refine⟨some ⟨g,0,none⟩,cap,rfl,fun _=>⟨g,0,rfl,hb g hg,(hown.lt g rfl).2,hf.cells hT fun j u hu=> ?_⟩⟩
  have:=hown.cells (g:=g) rfl j u hu
  rwa [Addr.add_mid]at this
theorem own_names {W:World} {T:Nat→Prop} {base:Nat} {v:Value} {k:List ByteArray} (hown:W.ownsRow base 9 1 v k.length (k.map Value.string)) (hb: ∀b,base≤b→T b) (hl:k.length≤9223372036854775807) (hs: ∀t∈k,t.size≤9223372036854775807):RepKS W T k v:=by
 rcases hown.2 with⟨rfl,h0⟩|⟨g,cap,cur,rfl,hg,hcell,hle,hm,_⟩
 ·refine⟨none,0,by rw[h0],hl,fun hne=> ?_⟩
  exact absurd (List.eq_nil_of_length_eq_zero h0) hne
 ·refine⟨some ⟨g,0,none⟩,cap,rfl,hl,fun _=>⟨g,0,rfl,hb g hg,(hown.lt g rfl).2,fun i hi=>⟨k[i],List.getElem?_eq_getElem hi,hs _ (List.getElem_mem hi),?_⟩⟩⟩
  have:=hown.cells (g:=g) rfl i (.string k[i]) (by rw[List.getElem?_map,List.getElem?_eq_getElem hi];rfl)
  rwa [Addr.add_mid]at this
theorem RepS.of_rows {W:World} {S T:Nat→Prop} {base:Nat} {vL vK:Value} {kind n:Int} {s:ByteArray} {l:List J} {k:List ByteArray} {xs:List Value} (hL:W.ownsRow base 63 5 vL l.length xs) (hf:FlatJ W S l xs)
  (hK:W.ownsRow base 9 1 vK k.length (k.map Value.string)) (hT: ∀b,S b→b<W.heap.size→T b) (hb: ∀b,base≤b→T b) (hs:s.size≤9223372036854775807) (hl:l.length≤9223372036854775807) (hk:k.length≤9223372036854775807) (hks: ∀t∈k,t.size≤9223372036854775807):
  RepS W T (.mk kind n s l k) (.agg #[.int .i64 kind,.int .i64 n,.string s,vL,vK]):=by
 obtain⟨A,c,rfl,hc⟩:=own_list hL hf hT hb
 rw[RepS]
 exact⟨vK,A,c,rfl,hs,own_names hK hb hk hks,hl,hc⟩
theorem RepS.zero (W:World) (S:Nat→Prop):RepS W S zeroJ (.agg #[.int .i64 0,.int .i64 0,.string ⟨#[]⟩,.slice none 0 0,.slice none 0 0]):=by
 unfold zeroJ
 rw[RepS]
 exact⟨_,none,0,rfl,by decide,⟨none,0,rfl,by simp,fun h=>absurd rfl h⟩,by simp,fun h=>absurd rfl h⟩
theorem RepS.plain (W:World) (S:Nat→Prop) (kind n:Int) (s:ByteArray) (hs:s.size≤9223372036854775807):RepS W S (.mk kind n s [] []) (.agg #[.int .i64 kind,.int .i64 n,.string s,.slice none 0 0,.slice none 0 0]):=by
 rw[RepS]
 exact⟨_,none,0,rfl,hs,⟨none,0,rfl,by simp,fun h=>absurd rfl h⟩,by simp,fun h=>absurd rfl h⟩
def zeros5:List Value:=[.int .i64 0,.int .i64 0,.string ⟨#[]⟩,.slice none 0 0,.slice none 0 0]
theorem zau:(Tryz.prog.info? 63).map (·.size)=some 5:=by kernel_rfl
theorem zgv {l:List Int}: ∀{x:List Int} {i:Nat},(∀c∈x,0≤c)→i≤l.length→(zci l i x).1≤l.length
 |[],i,_,hi=>by rw[zci];exact hi
 |c::r,i,hx,hi=>by
  rw[zci]
  split
  ·rename_i h
   exact zgv (fun c hc=>hx c (List.mem_cons_of_mem _ hc)) (zbZ (by have:=hx c (by simp);omega))
  ·exact hi
theorem zck (w:World) {n:Nat} (h:w.heap.size=n) (cs:List Value) (t:TypeId):Blk (w.alloc (.cells cs.toArray t)) n t cs:=by
 subst h;exact heap_alloc_new w _
theorem zdr (l:List Int) (i:Nat) (h:(zan l i).2.2=0):(zan l i).2.1≤l.length:=by
 unfold zan at h⊢
 split
 ·rename_i hc;rw[if_pos hc]at h;exact absurd (show(50:Int)=0 from h) (by decide)
 ·rename_i hc;rw[if_neg hc]at h;exact zhK l _ _ _ h
theorem quotL_len (l:List Int): ∀(f i:Nat) (out:List Int),(zbq l f i out).1.length≤out.length+4*f
 |0,i,out=>by rw[zbq];simp
 |f+1,i,out=>by
  have h: ∀(i:Nat) (x:List Int),x.length≤4→(zbq l f i (out++x)).1.length≤out.length+4*(f+1):=fun i x hx=>by
   have:=quotL_len l f i (out++x)
   rw[List.length_append]at this;omega
  rw[zbq]
  split
  ·simp
  ·split
   ·simp only;omega
   ·split
    ·split
     ·simp
     ·refine h _ _ ?_
      have:=(nx_bd (l.drop i)).2.2.1
      rw[List.length_take];omega
    ·split
     ·split
      ·simp
      ·exact h _ _ (by have:=plain_len (atL l (i+1));omega)
     ·split
      ·simp
      ·split
       ·exact h _ _ (zdc _)
       ·split
        ·simp
        ·exact h _ _ (zdc _)
theorem zjp (l:List Int) (i:Nat):(zan l i).1.length≤4*l.length+4:=by
 unfold zan
 split
 ·simp
 ·have:=quotL_len l (l.length+1) (i+1) []
  simp at this;omega
end Go.Proofs.YtceddodfddlncaaGreatDoor
