
import Derived.RangeFuncNested
import Derived.RangeFuncBound
import Derived.RangeFuncCalls
import Derived.RangeFuncLeaves
import Derived.Shelf.Abstract
import Derived.Shelf.RegionOpen
import Derived.OwnWalkIn
import Derived.TacticsInMore
import Derived.LoopNIn
import Derived.LoopIn
import Derived.RangeFuncBox
import Derived.Test.YtceddodfddlncaaGreatDoorJb05
set_option maxRecDepth 100000
set_option maxHeartbeats 16000000
set_option linter.all false
namespace Go.Proofs.YtceddodfddlncaaGreatDoor
open Go Go.RowKit Go.Shelf
attribute [local go_sem] Oper.semAt_some
abbrev Pl (l:List Int):Type:={p:Nat//p<l.length∧(nxL (l.drop p)).1≠ -1}
def nxtP {l:List Int} (x:Pl l):Nat:=x.1+(nxL (l.drop x.1)).2
def zhl {l:List Int} (pre:List (Pl l)):Nat:=(pre.getLast?.map nxtP).getD 0
@[simp] theorem endOf_snoc {l:List Int} (pre:List (Pl l)) (x:Pl l):zhl (pre++[x])=nxtP x:=by simp[zhl]
inductive Chain (l:List Int):List (Pl l)→Prop
 |nil:Chain l []
 |snoc {pre:List (Pl l)} {x:Pl l}:Chain l pre→x.1=zhl pre→Chain l (pre++[x])
theorem nxtP_bd {l:List Int} (x:Pl l):x.1<nxtP x∧nxtP x≤l.length∧nxtP x≤x.1+4:=by
 have h:=zcZ x.2.2
 have hl:(l.drop x.1).length=l.length-x.1:=List.length_drop
 have:=x.2.1
 unfold nxtP
 omega
theorem Chain.len {l:List Int} {pre:List (Pl l)} (h:Chain l pre):pre.length≤zhl pre∧zhl pre≤l.length:=by
 induction h with
 |nil=>simp[zhl]
 | @snoc pre x h1 h2 ih=>
  have:=nxtP_bd x
  rw[endOf_snoc,List.length_append,List.length_cons,List.length_nil]
  omega
abbrev encP {l:List Int} (x:Pl l):Array Value:= #[.int .i64 (x.1:Int),.int .i64 (nxL (l.drop x.1)).1]
theorem all_any (s:ByteArray) (w:World):
  Calls Tryz.prog 212 #[.string s] w fun e w'=>e= .returned (.func (.func 221) #[] #[.pointer (some ⟨w.heap.size,0,none⟩)])∧w'=w.alloc (.cells #[.string s] 9):=by
 go_enter Tryz.func212,Tryz.ntmps212
 go_wp2
 go_ret
 exact⟨rfl,rfl⟩
def KpS (n₀ Bs:Nat) (W W':World):Prop:=Below n₀ W W'∧W'.heap[Bs]? =W.heap[Bs]?
theorem KpS.refl (n₀ Bs:Nat) (W:World):KpS n₀ Bs W W:=⟨Below.refl _ _,rfl⟩
theorem KpS.trans {n₀ Bs:Nat} {A B C:World} (h:KpS n₀ Bs A B) (k:KpS n₀ Bs B C):KpS n₀ Bs A C:=⟨h.1.trans k.1,k.2.trans h.2⟩
theorem KpS.below {n₀ Bs:Nat} {W W':World} (h:Below W.heap.size W W') (hn:n₀≤W.heap.size) (hb:Bs<W.heap.size):KpS n₀ Bs W W':=⟨h.mono hn,h.block Bs hb⟩
theorem KpS.b {n₀ Bs:Nat} {w:World} (hn:n₀≤w.heap.size) (hb:Bs<w.heap.size) (W:World) (l:Nat) (o o':Obj) (hl:w.heap.size≤l) (h:W.heap[l]? =some o) (h1:o.isCells=false) (h2:o.isWalk=false):KpS n₀ Bs W (W.putObj l o'):=
 ⟨belowK_b hn W l o o' hl h h1 h2,World.putObj_heap_other (by omega)⟩
theorem all1_stops (n:Nat) (hn:1≤n) (Bs n₀:Nat) (s:ByteArray) (w:World) (hn₀:n₀≤w.heap.size) (hgl:6<n₀) (hm:Marks w) (hc:w.cell? ⟨Bs,0,none⟩=some (.string s)) (hs:s.size≤9223372036854775807):
  SeqStopsK Fence.wide n Tryz.prog 221 #[.pointer (some ⟨Bs,0,none⟩)] (encP (l:=strL s)) (KpS n₀ Bs) (fun xs=>Chain (strL s) xs∧zhl xs=badU (strL s)) (fun pre=>Chain (strL s) pre) s.size w:=fun l J Jx W hW hJ hJx hY h0=>by
 have hmW:Marks W:=hm.below hW
 have hcW:W.cell? ⟨Bs,0,none⟩=some (.string s):=(hW.cell (p:=⟨Bs,0,none⟩) (zaa hc)).trans hc
 have hBs:Bs<W.heap.size:=zaa hcW
 have hn₀W:n₀≤W.heap.size:=Nat.le_trans hn₀ hW.size
 have HM:=Lib.hid hmW
 have HC:=Lib.hid hcW
 have HJ:=Lib.hid hJ
 have HY:=Lib.hid hY
 clear hmW hcW hJ hY hm hc hW
 refine callsIn_of_wp Tryz.func221 rfl trivial ?_ rfl
 simp only[Tryz.ntmps221,List.size_toArray,List.length_cons,List.length_nil,Nat.reduceAdd,Nat.reduceSub,Array.replicate_succ,Array.replicate_zero,List.push_toArray,List.append_toArray,List.nil_append,List.cons_append]
 gi_wp2
 gi_loopw [3] (fun v wr=> ∃pre:List (Pl (strL s)),Chain (strL s) pre∧v= .int .i64 (zhl pre:Int)∧badU (strL s)=zhl pre+badU ((strL s).drop (zhl pre))∧J pre wr∧KpS n₀ Bs W wr) (fun v _=>s.size-(intOf v).toNat)
 case atStart=>exact⟨[],.nil,rfl,by simp[zhl],h0,KpS.refl _ _ _⟩
 case round=>
  obtain⟨pre,hch,rfl,hbad,hJs,hnx⟩:=hrel
  have hlen:=hch.len
  rw[zaQ]at hlen
  have HCH:=Lib.hid hch
  have HBAD:=Lib.hid hbad
  have HNX:=Lib.hid hnx
  have hcr:wr.cell? ⟨Bs,0,none⟩=some (.string s):=(World.cell?_of_block (a:=⟨Bs,0,none⟩) hnx.2).trans HC.out
  have hsz:W.heap.size≤wr.heap.size:=hnx.1.size
  have HMR:=Lib.hid (show Marks wr from Blk.below HM.out hnx.1 hgl)
  clear hch hbad hnx
  obtain⟨p,hp⟩: ∃p,p=zhl pre:=⟨_,rfl⟩
  rw[←hp]at hlen HBAD⊢
  by_cases hlt:p<s.size
  ·have hex:strL (s.extract p s.size)=(strL s).drop p:=by rw[zax,List.take_of_length_le (by rw[zaQ];omega)]
   have HN:=Lib.hid (begin_any (s.extract p s.size) wr HMR.out (by rw[←zaQ,hex,List.length_drop,zaQ];omega))
   rw[hex]at HN
   have HJB:=Lib.hid (fun(w':World) (hb:Below wr.heap.size wr w')=>HJ.out pre wr w' none hJs (zaX hb none) (fun r e=>by cases e))
   by_cases hx:(nxL ((strL s).drop p)).1= -1
   ·obtain⟨m,hmm⟩: ∃m,m=(nxL ((strL s).drop p)).2:=⟨_,rfl⟩
    rw[hx,←hmm]at HN
    have HX:=Lib.hid hx
    have HP:=Lib.hid hp
    clear hx hmm hex hp
    gi_wp2_with (refine⟨trivial,?_⟩;gi_at_call 222;refine(callsIn_wide.2 HN.out).mono ?_;rintro e w' ⟨rfl,hb⟩;have HJ2:=Lib.hid (HJB.out w' hb);clear hb)
    refine⟨fun _ h=>(by cases h),?_⟩
    gi_wp2
    refine bodyPost_ret (results_none rfl _ _ _) rfl ?_
    exact⟨⟨_,rfl⟩,.inl ⟨pre,⟨HCH.out,by rw[HBAD.out,zfs HX.out,HP.out];rfl⟩,HJ2.out⟩⟩
   ·have hpl:p<(strL s).length:=by rw[zaQ];exact hlt
    have hq: ∃x:Pl (strL s),x.1=p:=⟨⟨p,hpl,hx⟩,rfl⟩
    obtain⟨x,hxp⟩:=hq
    have HCH2:Hid (Chain (strL s) (pre++[x])):=Lib.hid (.snoc HCH.out (by rw[hxp,hp]))
    have HBAD2:Hid (badU (strL s)=nxtP x+badU ((strL s).drop (nxtP x))):=Lib.hid (by
     have:=badU_from HBAD.out hx
     rw[←hxp]at this
     exact this)
    have hnb:=nxtP_bd x
    rw[hxp,zaQ]at hnb
    have hxn:nxtP x=p+(nxL ((strL s).drop p)).2:=by unfold nxtP;rw[hxp]
    have HYR:=Lib.hid (fun(w':World) (hb:Below wr.heap.size wr w')=>HY.out pre x w' (HJB.out w' hb) (by omega))
    obtain⟨m,hmm⟩: ∃m,m=(nxL ((strL s).drop p)).2:=⟨_,rfl⟩
    obtain⟨y,hy⟩: ∃y,y=(nxL ((strL s).drop p)).1:=⟨_,rfl⟩
    rw[←hmm]at HN hxn
    rw[←hy]at HN
    have hy0:(y== -1)=false:=by rw[hy,beq_eq_false_iff_ne];exact hx
    have HEN:Hid (encP x= #[.int .i64 (p:Int),.int .i64 y]):=Lib.hid (by unfold encP;rw[hxp,hy])
    have HXN:=Lib.hid hxn
    have hnb2:=hnb
    rw[hxn]at hnb
    have HPP:=Lib.hid hp
    have HXP:=Lib.hid hxp
    clear hx hmm hex hp hy hxn hxp hpl hnb2
    gi_wp2_with (refine⟨trivial,?_⟩;gi_at_call 222;refine(callsIn_wide.2 HN.out).mono ?_;rintro e w1 ⟨rfl,hb⟩;obtain⟨fn,tmps,assign,body,hyl,hR⟩:=HYR.out w1 hb;rw[HEN.out]at hyl;have HR:=Lib.hid hR;have HB1:=Lib.hid hb;clear hR hb)
    refine HR.out.mono ?_
    rintro e W3 (⟨rfl,hJ3,hk3⟩|⟨rfl,hJx3⟩)
    ·have HJ3:=Lib.hid hJ3
     have HK3:Hid (KpS n₀ Bs W W3):=Lib.hid (HNX.out.trans ((KpS.below HB1.out (by omega) (by omega)).trans hk3))
     clear hJ3 hk3
     gi_wp2
     go_roundw
     case rel=>exact⟨pre++[x],HCH2.out,by rw[endOf_snoc,HXN.out];go_num,by rw[endOf_snoc];exact HBAD2.out,HJ3.out,HK3.out⟩
     case measure=>simp[intOf];omega
    ·have HJX3:=Lib.hid hJx3
     clear hJx3
     gi_wp2
     refine bodyPost_ret (results_none rfl _ _ _) rfl ?_
     exact⟨⟨_,rfl⟩,.inr ⟨_,HCH2.out,HJX3.out⟩⟩
  ·obtain rfl:p=s.size:=by omega
   have HE:Hid (zhl pre=badU (strL s)):=Lib.hid (by
    rw[HBAD.out,show(strL s).drop s.size=[]from List.drop_eq_nil_of_le (by rw[zaQ];exact Nat.le_refl _),←hp];rfl)
   have HJ2:=Lib.hid hJs
   clear hp
   gi_wp2
   go_end0
   exact⟨⟨_,rfl⟩,.inl ⟨pre,⟨HCH.out,HE.out⟩,HJ2.out⟩⟩
attribute [local go_sem] Oper.semAt_some
def zmg (pos:Int) (w:World) (e:Ending) (w':World):Prop:=
 ∃b,e= .returned (.iface 188 (.pointer (some ⟨b,0,none⟩)))∧w'.cell? ⟨b,0,none⟩=some (.int .i64 pos)∧w'.cell? ⟨b,0+1,none⟩=some (.iface 54 (.int .i64 30))∧w.heap.size≤b∧Below w.heap.size w w'
def CheckTells (xs:List Int) (w:World) (e:Ending) (w':World):Prop:=
 (badU xs=xs.length∧e= .returned .nilIface∧Below w.heap.size w w')∨(badU xs≠xs.length∧zmg (badU xs:Int) w e w')
theorem check_any (A:Option Addr) (xs:List Int) (n c:Nat) (w:World) (hm:Marks w) (hn:xs.length=n) (hn2:n≤4611686018427387904) (hx:Bytes xs) (hl:Lies w A xs):
  Calls Tryz.prog 197 #[.slice A n c] w (CheckTells xs w):=by
 have hcv:(convert 46 9 (.slice A n c)).run Tryz.prog (w.alloc (.cells #[.int .i64 0] 3))= .ok (.string (toS xs)) (w.alloc (.cells #[.int .i64 0] 3)):=zdo A xs n c _ hn (hl.below (zad _ _))
 have HSX:Hid (strL (toS xs)=xs):=Lib.hid (zcb hx)
 have hsz:(toS xs).size=n:=by rw[zcm,hn]
 obtain⟨S,hS⟩: ∃S,S=toS xs:=⟨_,rfl⟩
 rw[←hS]at hcv HSX hsz
 have HSZ:=Lib.hid hsz
 have HN:=Lib.hid hn
 have HM:=Lib.hid hm
 have hglt:6<w.heap.size:=hm.lt
 clear hS hsz hn hl hx hm
 refine(callsIn_wide (n:=4)).1 ?_
 refine callsIn_of_wp_marks Tryz.func197 rfl trivial ?_ rfl
 simp only[Tryz.ntmps197,List.size_toArray,List.length_cons,List.length_nil,Nat.reduceAdd,Nat.reduceSub,Array.replicate_succ,Array.replicate_zero,List.push_toArray,List.append_toArray,List.nil_append,List.cons_append]
 gi_wp2_with (refine⟨trivial,?_⟩;gi_at_call 212;refine(callsIn_wide.2 (all_any S _)).mono ?_;rintro e w1 ⟨rfl,rfl⟩)
 have c0:=Boxed.new w 3 (.int .i64 0)
 have c1:=Boxed.new (w.alloc (.cells #[.int .i64 0] 3)) 9 (.string S)
 rw[World.size_alloc]at c1
 have hB0:Below w.heap.size w ((w.alloc (.cells #[.int .i64 0] 3)).alloc (.cells #[.string S] 9)):=((Below.refl _ w).alloc (Nat.le_refl _) _).alloc (by simp) _
 refine wpIn_rangeFunc_ownG rfl (by omega) (gf:=221) (lb:= #[.pointer (some ⟨w.heap.size+1,0,none⟩)]) rfl trivial (enters_of Tryz.func221 (by kernel_rfl) rfl)
  (all1_stops (4-1) (by omega) (w.heap.size+1) w.heap.size S _ (by simp;omega) hglt (HM.out.below hB0) c1.cell (by have:=HSZ.out;omega)) KpS.trans (KpS.b (by simp;omega) (by simp)) (Below.refl _ _) (fun _=>rfl)
  (fun pre W=>Boxed W w.heap.size 3 (.int .i64 (zhl pre:Int))∧Below w.heap.size w W)
  (fun _ _ _=>False)
  (OwnFrom.and (Own.from (boxed_own _ _ _) _) (ownFrom_below (Nat.le_refl _) (by simp;omega)))
  (fun _ _ _ _ _ hs _ _=>hs)
  ⟨c0.alloc _,hB0⟩
  (fun x=>{tmps:= #[.slice A n c,undef,.nilIface,.pointer (some ⟨w.heap.size,0,none⟩),.int .i64 (x.1:Int),.int .i64 (nxL ((strL S).drop x.1)).1,.slice A n c,.string S,.func (.func 221) #[] #[.pointer (some ⟨w.heap.size+1,0,none⟩)],.int .i64 (x.1:Int),.int .i64 (nxL ((strL S).drop x.1)).1,undef,undef,undef,undef,undef,undef,undef,undef,undef,undef,undef,undef,undef],defers:=[]}) ?assign ?body ?done ?stop
 case assign=>
  intro l x W K hK
  gi_wp2
  exact hK
 case body=>
  rintro l pre x W ⟨hbx,hB⟩ _
  have hc:=hbx.cell
  have hf:=hbx.frozen
  have HBX:=Lib.hid hbx
  have hfd:=zcZ x.2.2
  have hnb:=nxtP_bd x
  have HS:=Lib.hid (fun W:World=>zel (nxL ((strL S).drop x.1)).1 _ hfd.2.1 W)
  have HX:Hid ((x.1:Int)+((nxL ((strL S).drop x.1)).2:Int)=(nxtP x:Int)):=Lib.hid (by unfold nxtP;omega)
  have hxl:x.1<n:=by have:=x.2.1;have:=zaQ S;have:=HSZ.out;omega
  have HB:=Lib.hid hB
  obtain⟨m,hm⟩: ∃m,m=(nxL ((strL S).drop x.1)).2:=⟨_,rfl⟩
  have hm4:m≤4:=by rw[hm];exact hfd.2.2.2.2.1
  rw[←hm]at HS HX
  clear hfd hnb hB hm hbx
  gi_wp2_with (refine⟨trivial,?_⟩;gi_at_call 213;refine(CallsIn.inRound l (callsIn_wide.2 (HS.out _))).mono ?_;rintro e w' ⟨rfl,rfl⟩)
  refine⟨(KeepsOthers.setCell _ _ _).from _,⟨(Below.refl w.heap.size W).setCell (p:=⟨w.heap.size,0,none⟩) (Nat.le_refl _) _,heap_setCell_other W ⟨w.heap.size,0,none⟩ _ _ (by simp)⟩,?_,HB.out.setCell (p:=⟨w.heap.size,0,none⟩) (Nat.le_refl _) _⟩
  rw[endOf_snoc,←HX.out]
  exact HBX.out.set _
 case done=>
  rintro D ys W hD ⟨hch,hend⟩ ⟨hbx,hB⟩ hK
  have hc:=hbx.cell
  rw[hend,HSX.out]at hc
  have HB:=Lib.hid hB
  have HBX:=Lib.hid hbx
  have HK:=Lib.hid hK
  have hle:=badU_le' xs
  rw[HN.out]at hle
  clear hB hbx hK hend
  by_cases hlt:badU xs<n
  ·gi_wp2
   have hK':=(KeepsOthers.alloc W (.cells #[.int .i64 (badU xs:Int),.iface 54 (.int .i64 30)] 190)).same D _ HK.out rfl
   have hB':=HB.out.alloc HB.out.size (.cells #[.int .i64 (badU xs:Int),.iface 54 (.int .i64 30)] 190)
   refine⟨by simp,.inl ⟨_,_,rfl,run_takeDeferred hK',?_⟩⟩
   refine⟨_,results_tmp rfl _ _ _,.inr ⟨by rw[HN.out];omega,W.heap.size,rfl,?_,?_,HB.out.size,hB'.trans (belowK_b (w:=w) (Nat.le_refl _) _ D _ _ (by simp at hD;omega) hK' rfl rfl)⟩⟩
   ·exact cell_kept (by simp) (grownBy_putObj' _ D (.deferred none)) (fun r e=>by cases e;exact⟨_,hK',rfl⟩)
   ·exact cell_kept (by simp) (grownBy_putObj' _ D (.deferred none)) (fun r e=>by cases e;exact⟨_,hK',rfl⟩)
  ·gi_wp2
   refine⟨by simp,.inl ⟨_,_,rfl,run_takeDeferred HK.out,?_⟩⟩
   exact⟨_,results_tmp rfl _ _ _,.inl ⟨by rw[HN.out];omega,rfl,HB.out.trans (belowK_b (w:=w) (Nat.le_refl _) W D _ _ (by simp at hD;omega) HK.out rfl rfl)⟩⟩
 case stop=>
  rintro D c pre W _ _ h _
  exact h.elim
end Go.Proofs.YtceddodfddlncaaGreatDoor
