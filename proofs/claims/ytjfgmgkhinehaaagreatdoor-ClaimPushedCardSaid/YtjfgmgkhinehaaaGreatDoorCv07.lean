
import Derived.Great.BuildSlice
import Derived.Test.YtjfgmgkhinehaaaGreatDoorCq01
import Derived.Test.YtjfgmgkhinehaaaGreatDoorCq02
import Derived.Test.YtjfgmgkhinehaaaGreatDoorCq04
import Derived.Test.YtjfgmgkhinehaaaGreatDoorCq06
import Derived.Test.YtjfgmgkhinehaaaGreatDoorCq11
import Derived.Test.YtjfgmgkhinehaaaGreatDoorCq14
import Derived.Test.YtjfgmgkhinehaaaGreatDoorCq15
import Derived.Test.YtjfgmgkhinehaaaGreatDoorCq17
import Derived.Test.YtjfgmgkhinehaaaGreatDoorCq19
import Derived.Test.YtjfgmgkhinehaaaGreatDoorCq20
import Derived.Test.YtjfgmgkhinehaaaGreatDoorCq23
import Derived.Test.YtjfgmgkhinehaaaGreatDoorCq25
import Derived.Test.YtjfgmgkhinehaaaGreatDoorCq27
import Derived.Test.YtjfgmgkhinehaaaGreatDoorCq28
import Derived.Test.YtjfgmgkhinehaaaGreatDoorCq29
import Derived.Test.YtjfgmgkhinehaaaGreatDoorCq31
import Derived.Test.YtjfgmgkhinehaaaGreatDoorCq32
import Derived.Test.YtjfgmgkhinehaaaGreatDoorCq48
import Derived.Test.YtjfgmgkhinehaaaGreatDoorCq50
import Derived.Test.YtjfgmgkhinehaaaGreatDoorCq52
import Derived.Test.YtjfgmgkhinehaaaGreatDoorCq53
import Derived.Test.YtjfgmgkhinehaaaGreatDoorCq54
import Derived.Test.YtjfgmgkhinehaaaGreatDoorCv01
import Derived.Test.YtjfgmgkhinehaaaGreatDoorCv03
import Derived.Test.YtjfgmgkhinehaaaGreatDoorCv05
import Derived.Test.YtjfgmgkhinehaaaGreatDoorCv06
set_option maxRecDepth 100000
set_option maxHeartbeats 16000000
set_option linter.all false
namespace Go.Proofs.YtjfgmgkhinehaaaGreatDoor
open Go Go.RowKit
theorem JErr.below {n pos:Int} {v:Value} {w w':World} (h:JErr n pos v w) (hb:Below w.heap.size w w'):JErr n pos v w':=by
 rcases h with h|h|⟨h,b,e,h0,h1⟩
 ·exact .inl h
 ·exact .inr (.inl h)
 ·exact .inr (.inr ⟨h,b,e,(hb.cell (p:=⟨b,0,none⟩) (zab h0)).trans h0,(hb.cell (p:=⟨b,1,none⟩) (zab h1)).trans h1⟩)
theorem numJ {n pos:Int} {v:Value} {W:World} (h:JErr n pos v W) (hg:ErrTab W):Calls Tryz.prog 35 #[v] W fun e w'=>e= .returned (.int .i64 n)∧Below W.heap.size W w':=by
 rcases h with⟨rfl,rfl,rfl⟩|⟨_,rfl,rfl⟩|⟨_,b,rfl,h0,h1⟩
 ·refine(num_nil W).mono ?_
  rintro e w' ⟨rfl,rfl⟩
  exact⟨rfl,Below.refl _ _⟩
 ·exact num_errno n W hg
 ·exact num_at n b 0 W hg h1
mutual
theorem zoo: ∀j:J,zol j j=true
 | .mk k n s l m=>by rw[zol,zos l];simp
theorem zos: ∀l:List J,zoj l l=true
 |[]=>by rw[zoj]
 |x::r=>by rw[zoj,zoo x,zos r];rfl
end
def zok (ns:List ByteArray) (ms:List (ByteArray×J)):List (ByteArray×J):=ms.filter fun m=> !hasN ns m.1
def zoi (ns:List ByteArray) (j:J):J:= .mk 5 0 ⟨#[]⟩ (zdZ (zok ns (j.k.zip j.l))).2 (zdZ (zok ns (j.k.zip j.l))).1
theorem zoz {ns:List ByteArray} {ms:List (ByteArray×J)} {i:Nat} (hi:i<ms.length):zok ns (ms.take (i+1))=if hasN ns ms[i].1=true then zok ns (ms.take i)else zok ns (ms.take i)++[(ms[i].1,ms[i].2)]:=by
 rw[List.take_succ_eq_append_getElem hi]
 unfold zok
 rw[List.filter_append]
 by_cases h:hasN ns ms[i].1=true
 ·rw[if_pos h,List.filter_cons_of_neg (by simp[h]),List.filter_nil,List.append_nil]
 ·rw[if_neg h,List.filter_cons_of_pos (by simp[h]),List.filter_nil]
structure OneM (w wr:World) (ms:List (ByteArray×J)) (v:Value) (zs:List MC):Prop where
 bel:Below w.heap.size w wr
 own:wr.ownsRow w.heap.size 30 6 v ms.length (zdz zs)
 fl:FlatM wr (fun b=>b<w.heap.size) ms zs
theorem OneM.start (w:World):OneM w w [] (.slice none 0 0) []:=⟨Below.refl _ _,World.ownsRow_nil _ _ _ _,rfl⟩
theorem OneM.add {w wr w4 w5:World} {ms:List (ByteArray×J)} {v:Value} {zs:List MC} {t:ByteArray} {x:J} {c0 c1 c2 c3 c4:Value} {g cap n:Nat} (h:OneM w wr ms v zs) (h4:wr.grownBy w4 none) (ht:t.size≤9223372036854775807) (hx:RepS wr (fun b=>b<w.heap.size) x (.agg #[c0,c1,c2,c3,c4])) (hgr:w4.grownBy w5 v.ownBlock)
  (hn:n=ms.length+1) (hown:w5.ownsRow w.heap.size 30 6 (.slice (some ⟨g,0,none⟩) n cap) n (zdz zs++[.string t,c0,c1,c2,c3,c4])):
  OneM w w5 (ms++[(t,x)]) (.slice (some ⟨g,0,none⟩) n cap) (zs++[⟨t,c0,c1,c2,c3,c4⟩]):=by
 subst hn
 have lL:=fun b hb=>(h.own.kept h4 (Classical.em _)).lt b hb
 have hkeep:Keeps (fun b=>b<w.heap.size) w4 w5:=Keeps.grown hgr (fun b hb e=>by have:=(lL b e.symm).1;omega)
 have k4:Keeps (fun b=>b<w.heap.size) wr w4:=Keeps.grown h4 (fun b _ e=>by cases e)
 have hb4:=h.bel.grown h4 h.bel.size (fun k hk=>by cases hk)
 refine⟨hb4.grown hgr hb4.size (fun b hb=>(lL b hb).1),?_,?_⟩
 ·rw[List.length_append,List.length_singleton,show zdz (zs++[⟨t,c0,c1,c2,c3,c4⟩])=zdz zs++[.string t,c0,c1,c2,c3,c4]by unfold zdz;rw[List.flatMap_append];rfl]
  exact hown
 ·exact FlatM.snoc ht (RepS.keeps hkeep (fun _ h _=>h) _ _ (RepS.keeps k4 (fun _ h _=>h) _ _ hx)) ((h.fl.keeps k4 (fun _ h _=>h)).keeps hkeep (fun _ h _=>h))
def MembIn (W:World) (j:J) (yA yK:Option Addr) (i:Nat):Prop:= ∃gn on gv ov t x x0 x1 x2 xA xp xc xK xq xd,yK=some ⟨gn,on,none⟩∧yA=some ⟨gv,ov,none⟩∧gn<W.heap.size∧gv<W.heap.size∧(j.k.zip j.l)[i]? =some (t,x)∧t.size≤9223372036854775807∧RepJ W x (.agg #[.int .i64 x0,.int .i64 x1,.string x2,.slice xA xp xc,.slice xK xq xd])∧W.cell? ⟨gn,on+i,none⟩=some (.string t)∧
 W.cell? ⟨gv,ov+i*5,none⟩=some (.int .i64 x0)∧W.cell? ⟨gv,ov+i*5+1,none⟩=some (.int .i64 x1)∧W.cell? ⟨gv,ov+i*5+2,none⟩=some (.string x2)∧W.cell? ⟨gv,ov+i*5+3,none⟩=some (.slice xA xp xc)∧W.cell? ⟨gv,ov+i*5+4,none⟩=some (.slice xK xq xd)
theorem memb_in {W:World} {j:J} {y0 y1:Int} {y2:ByteArray} {yA:Option Addr} {yp yc:Nat} {yK:Option Addr} {yq yd:Nat} (h:RepJ W j (.agg #[.int .i64 y0,.int .i64 y1,.string y2,.slice yA yp yc,.slice yK yq yd])) (hkl:j.k.length=j.l.length):
  yq=j.k.length∧yp=j.l.length∧ ∀i,i<j.k.length→MembIn W j yA yK i:=by
 obtain⟨vk,A,c,e, -,hk, -,hc⟩:=h.open
 obtain⟨K,d,rfl, -,hkc⟩:=hk.open
 injection e with e
 have e:=congrArg Array.toList e
 simp only[List.cons.injEq,Value.int.injEq,Value.string.injEq,Value.slice.injEq,true_and,and_true]at e
 obtain⟨-, -, -,⟨rfl,rfl, -⟩,⟨rfl,rfl, -⟩⟩:=e
 refine⟨rfl,rfl,fun i hi=> ?_⟩
 obtain⟨gn,on,rfl,hgn,hts,hcn⟩:=hkc i hi
 have hil:i<j.l.length:=by omega
 obtain⟨gv,ov,rfl,hgv,hcv⟩:=hc (fun e=>by rw[e]at hil;exact absurd hil (Nat.not_lt_zero _))
 obtain⟨v,hr,a0,a1,a2,a3,a4,rfl,c0,c1,c2,c3,c4⟩:=hcv.at i hil
 obtain⟨x0,x1,x2,xA,xp,xc,xK,xq,xd,e⟩:=hr.form
 injection e with e
 have e:=congrArg Array.toList e
 simp only[List.cons.injEq,and_true]at e
 obtain⟨rfl,rfl,rfl,rfl,rfl⟩:=e
 exact⟨gn,on,gv,ov,j.k[i],j.l[i],x0,x1,x2,xA,xp,xc,xK,xq,xd,rfl,rfl,hgn,hgv,List.getElem?_zip_eq_some.2 ⟨List.getElem?_eq_getElem hi,List.getElem?_eq_getElem hil⟩,hts,hr,hcn,c0,c1,c2,c3,c4⟩
theorem cell_lit (w:World) (cs:List Value) (t:TypeId): ∀j u,cs[j]? =some u→(w.alloc (.cells cs.toArray t)).cell? ((⟨w.heap.size,0,none⟩:Addr).add j)=some u:=fun j u h=>by
 rw[Addr.add_lit,World.cell?_alloc_new]
 simpa using h
theorem keepM_ok {ns:List ByteArray} {j:J} (hkl:j.k.length=j.l.length) (hl:j.k.length≤256) (hnd:j.k.Nodup) (hsm: ∀x∈j.l,Sm x):MsOk (zok ns (j.k.zip j.l)):=by
 refine⟨Nat.le_trans (List.length_filter_le _ _) (by rw[List.length_zip];omega),?_,fun m hm=>hsm _ (List.of_mem_zip (List.mem_filter.1 hm).1).2⟩
 have h1:((zok ns (j.k.zip j.l)).map Prod.fst).Sublist ((j.k.zip j.l).map Prod.fst):=List.Sublist.map _ List.filter_sublist
 have h2:((j.k.zip j.l).map Prod.fst).Sublist j.k:=by rw[List.map_fst_zip (by omega)];exact List.Sublist.refl _
 exact(h1.trans h2).nodup hnd
theorem without_any (j:J) (va:Value) (nA:Option Addr) (nn nc:Nat) (ns:List ByteArray) (W:World) (ha:RepJ W j va) (hsm: ∀x∈j.l,Sm x) (hkl:j.k.length=j.l.length) (hl:j.k.length≤256) (hnd:j.k.Nodup) (hn:RepK W ns (.slice nA nn nc)) (hns:ns.length≤1000000000):
  Calls Tryz.prog 73 #[va,.slice nA nn nc] W (fun e w'=> ∃v',e= .returned v'∧RepS w' (fun b=>W.heap.size≤b) (zoi ns j) v'∧Below W.heap.size W w'):=by
 obtain⟨y0,y1,y2,yA,yp,yc,yK,yq,yd,rfl⟩:=ha.form
 obtain⟨e1,e2,hmb⟩:=memb_in ha hkl
 obtain⟨W2,hW2⟩: ∃X,X=(W.alloc (.cells #[.int .i64 y0,.int .i64 y1,.string y2,.slice yA yp yc,.slice yK yq yd] 27)).alloc (.cells #[.int .i64 0,.int .i64 0,.string ⟨#[]⟩,.slice none 0 0,.slice none 0 0] 27):=⟨_,rfl⟩
 have hB2:Below W.heap.size W W2:=by rw[hW2];exact((Below.refl _ _).alloc (Nat.le_refl _) _).alloc (by simp) _
 have hbv:Blk W2 W.heap.size 27 [.int .i64 y0,.int .i64 y1,.string y2,.slice yA yp yc,.slice yK yq yd]:=by rw[hW2];exact(zcb W rfl [.int .i64 y0,.int .i64 y1,.string y2,.slice yA yp yc,.slice yK yq yd] _).grownN (World.grownBy_alloc _ _ none)
 have hbr:Blk W2 (W.heap.size+1) 27 zeros5:=by rw[hW2];exact zcb _ (by simp) zeros5 _
 have hz:W2.heap.size=W.heap.size+2:=by rw[hW2];simp
 obtain⟨n,hnn⟩: ∃n,n=j.k.length:=⟨_,rfl⟩
 have HOB:=Lib.hid (fun(w:World) (v:Value) (zs:List MC) (S:Nat→Prop)=>obj_all (zok ns (j.k.zip j.l)) (keepM_ok hkl hl hnd hsm) w v zs S)
 have HHS:=Lib.hid (fun(X:World) (hX:Below W.heap.size W X) (t:ByteArray)=>hasR_any _ ns t X (hn.below hX) hns)
 have HMB:Hid (∀X,Below W.heap.size W X→ ∀i,i<n→ ∃gn on gv ov t x x0 x1 x2 xA xp xc xK xq xd,yK=some ⟨gn,on,none⟩∧yA=some ⟨gv,ov,none⟩∧(j.k.zip j.l)[i]? =some (t,x)∧t.size≤9223372036854775807∧RepS X (fun b=>b<W2.heap.size) x (.agg #[.int .i64 x0,.int .i64 x1,.string x2,.slice xA xp xc,.slice xK xq xd])∧X.cell? ⟨gn,on+i,none⟩=some (.string t)∧
   X.cell? ⟨gv,ov+i*5,none⟩=some (.int .i64 x0)∧X.cell? ⟨gv,ov+i*5+1,none⟩=some (.int .i64 x1)∧X.cell? ⟨gv,ov+i*5+2,none⟩=some (.string x2)∧X.cell? ⟨gv,ov+i*5+3,none⟩=some (.slice xA xp xc)∧X.cell? ⟨gv,ov+i*5+4,none⟩=some (.slice xK xq xd)):=Lib.hid fun X hX i hi=>by
  obtain⟨gn,on,gv,ov,t,x,x0,x1,x2,xA,xp,xc,xK,xq,xd,h1,h2,h3,h4,h5,h6,h7,h8,q0,q1,q2,q3,q4⟩:=hmb i (by omega)
  have cc: ∀b o u,b<W.heap.size→W.cell? ⟨b,o,none⟩=some u→X.cell? ⟨b,o,none⟩=some u:=fun b o u hb h=>(hX.cell (p:=⟨b,o,none⟩) hb).trans h
  exact⟨gn,on,gv,ov,t,x,x0,x1,x2,xA,xp,xc,xK,xq,xd,h1,h2,h5,h6,RepS.keeps (Keeps.below hX (fun b _ h=>h)) (fun b _ hb=>show b<W2.heap.size by omega) _ _ (RepS.ofJ _ _ h7),cc _ _ _ h3 h8,cc _ _ _ h4 q0,cc _ _ _ h4 q1,cc _ _ _ h4 q2,cc _ _ _ h4 q3,cc _ _ _ h4 q4⟩
 have HL:Hid (n≤256∧(j.k.zip j.l).length=n):=Lib.hid ⟨by omega,by rw[List.length_zip];omega⟩
 have hn256:n≤256:=by omega
 obtain rfl:yq=n:=by omega
 obtain rfl:yp=yq:=by omega
 have HB2:=Lib.hid hB2
 have HBV:=Lib.hid hbv
 have HBR:=Lib.hid hbr
 have HZ:=Lib.hid hz
 have HW2:=Lib.hid hW2
 have v4:W2.cell? ⟨W.heap.size,4,none⟩=some (.slice yK yp yd):=hbv.cell 4
 obtain⟨iM,hM,hM0,hM1,hM2⟩:=info_parts zmc
 clear ha hmb hn hnd hsm hl hkl hns e1 e2 hB2 hbv hbr hz hW2 hnn
 go_enter Tryz.func73,Tryz.ntmps73
 go_wp2_with fail
 rw[show(W.alloc (.cells #[.int .i64 y0,.int .i64 y1,.string y2,.slice yA yp yc,.slice yK yp yd] 27)).alloc (.cells #[.int .i64 0,.int .i64 0,.string ⟨#[]⟩,.slice none 0 0,.slice none 0 0] 27)=W2 from HW2.out.symm]
 clear v4
 go_loopw[5,11] (fun v5 v11 wr=> ∃i:Nat,i≤yp∧v11= .int .i64 (i:Int)∧ ∃ms zs,OneM W2 wr ms v5 zs∧ms.length≤i∧Hid (ms=zok ns ((j.k.zip j.l).take i))) (fun _ v11 _=>yp-(intOf v11).toNat)
 case atStart=>exact⟨0,Nat.zero_le _,rfl,[],[],OneM.start W2,Nat.le_refl _,Lib.hid rfl⟩
 case round=>
  obtain⟨i,hi,rfl,ms,zs,hO,hml,HMS⟩:=hrel
  have HBW:=Lib.hid (HB2.out.trans (hO.bel.mono HB2.out.size))
  by_cases hlt:i<yp
  ·have hk0:(0:Int)≤(i:Int):=by omega
   have hk1:(i:Int)<(yp:Int):=by omega
   obtain⟨gn,on,gv,ov,t,x,x0,x1,x2,xA,xp,xc,xK,xq,xd,rfl,rfl,hzi,hts,hx,kc,l0,l1,l2,l3,l4⟩:=HMB.out wr HBW.out i hlt
   have hzl:i<(j.k.zip j.l).length:=by rw[HL.out.2];exact hlt
   have hze:(j.k.zip j.l)[i]=(t,x):=by rw[List.getElem?_eq_getElem hzl]at hzi;injection hzi
   have HKT:=Lib.hid (zoz (ns:=ns) hzl)
   rw[hze]at HKT
   have HX:=Lib.hid hx
   have HTS:=Lib.hid hts
   have HO:=Lib.hid hO
   have HH:=Lib.hid (HHS.out wr HBW.out t)
   obtain⟨B,hB⟩: ∃b,b=hasN ns t:=⟨_,rfl⟩
   dsimp only at HKT
   rw[←hB]at HH HKT
   have b3:wr.cell? ⟨W.heap.size,3,none⟩=some (.slice (some ⟨gv,ov,none⟩) yp yc):=(HBV.out.below hO.bel (by rw[HZ.out];omega)).cell 3
   clear hzi hts hx hzl hze hO hB
   cases B with
   |true=>
    go_wp2_with(go_at_call 102;(with_reducible refine HH.out.mono ?_);rintro e w' ⟨rfl,rfl⟩)
    go_roundw
    case rel=>exact⟨i+1,hlt,by go_num,ms,zs,HO.out,by omega,Lib.hid (by rw[HKT.out];exact HMS.out)⟩
    case measure=>simp[intOf];omega
   |false=>
    have hlen:ms.length≤256:=by omega
    have HOW:=Lib.hid HO.out.own
    obtain⟨a,haa⟩: ∃a,a=ms.length:=⟨_,rfl⟩
    rw[←haa]at HOW hlen
    have HA:=Lib.hid haa
    obtain⟨fz,hfz⟩: ∃f,f=zdz zs:=⟨_,rfl⟩
    rw[←hfz]at HOW
    have HFZ:=Lib.hid hfz
    have hsz:=HO.out.bel.size
    clear haa hfz
    go_wp2_with(first
     |(go_at_call 102;(with_reducible refine HH.out.mono ?_);rintro e w' ⟨rfl,hw'⟩;rw[hw'];clear hw')
     |(at_builtin;go_loud (refine wpList_append_lies _ rfl _ _ 25 rfl W2.heap.size 30 iM (.agg #[.string ⟨#[]⟩,.int .i64 0,.int .i64 0,.string ⟨#[]⟩,.slice none 0 0,.slice none 0 0]) 6 96 Tryz.underlying25 hM hM0 hM1 hM2 rfl (by decide) _ a fz rfl (HOW.out.alloc _) ⟨wr.heap.size,0,none⟩ 1 1 [.string t,.int .i64 x0,.int .i64 x1,.string x2,.slice xA xp xc,.slice xK xq xd] rfl rfl (cell_lit _ _ _) (by simp[Value.oneCell']) (by decide) (by unfold maxLen;omega) (by omega) (by simp;omega) _ rfl ?_;intro g5 cap5 w5 hown5 hgrow5 hat5 hlt5;have HN5:=Lib.hid hown5;have HG5:=Lib.hid hgrow5;clear hown5 hgrow5 hat5 hlt5;try go_frame)))
    have HF:=Lib.hid (HO.out.add (World.grownBy_alloc wr (.cells #[.string t,.int .i64 x0,.int .i64 x1,.string x2,.slice xA xp xc,.slice xK xq xd] 30) none) HTS.out HX.out HG5.out (n:=a+1) (by rw[HA.out]) (by rw[←HFZ.out];exact HN5.out))
    go_roundw
    case rel=>exact⟨i+1,hlt,by go_num,_,_,HF.out,by rw[List.length_append,List.length_singleton];omega,Lib.hid (by rw[HKT.out,HMS.out];rfl)⟩
    case measure=>simp[intOf];omega
  ·obtain rfl:i=yp:=by omega
   have hkn: ¬(i:Int)<(i:Int):=by omega
   have hms:ms=zok ns (j.k.zip j.l):=by rw[HMS.out,List.take_of_length_le (by rw[HL.out.2];omega)]
   have HO:=Lib.hid hO
   have hfl:=hO.fl
   have hrow:=own_row hO.own hO.fl.length
   rw[hms]at hfl
   have HC:=Lib.hid (HOB.out wr _ zs _ (fun b hb=>Nat.lt_of_lt_of_le hb hO.bel.size) hfl hrow)
   have hbr3:=HBR.out.below hO.bel (by rw[HZ.out];omega)
   have HBR3:=Lib.hid hbr3
   have HSZ:=Lib.hid (show W.heap.size+2≤wr.heap.size by have:=hO.bel.size;have:=HZ.out;omega)
   clear hms hfl hrow hO hbr3
   go_wp2_with fail
   refine HC.out.mono ?_
   rintro e w6 ⟨v',rfl,hrep,hb⟩
   obtain⟨x0,x1,x2,xA,xp,xc,xK,xq,xd,rfl⟩:=(RepS.toJ _ _ hrep).form
   have hbr6:=HBR3.out.below hb HBR3.out.lt
   have HB6:=Lib.hid (HBW.out.trans (hb.mono HBW.out.size))
   have HRP:=Lib.hid hrep
   clear hb hrep HC
   go_wp2_with(refine zaQ rfl none rfl _ (.tmp 4) (.tmp 32) rfl (W.heap.size+1) 0 [.int .i64 x0,.int .i64 x1,.string x2,.slice xA xp xc,.slice xK xq xd] rfl rfl _ _ hbr6 (by simp[zeros5]) zaa (by intro v hv;simp at hv;rcases hv with rfl|rfl|rfl|rfl|rfl<;>rfl) ?_;intro w9 hb9 hgr;rw[zaW _ _ (by simp[zeros5])]at hb9;have HB9:=Lib.hid hb9;have HG9:=Lib.hid hgr;clear hgr hb9 hbr6;try go_frame)
   (try simp only[Exit.inBlock,Exit.then])
   refine bodyPost_ret (zbK Tryz.results73 _ _ (W.heap.size+1) _ _ _ rfl HB9.out Tryz.underlying27 rfl zaa) rfl ⟨_,rfl,?_,HB6.out.grown HG9.out HB6.out.size (by intro b e;injection e with e;omega)⟩
   exact RepS.keeps (Keeps.grown HG9.out (fun b (h:_≤b) e=>by injection e with e;have:=HSZ.out;omega)) (fun b (h:_≤b) _=>show W.heap.size≤b by have:=HSZ.out;omega) _ _ HRP.out
end Go.Proofs.YtjfgmgkhinehaaaGreatDoor
namespace Go.Proofs.YtjfgmgkhinehaaaGreatDoor
open Go Go.RowKit Go.Extern.Stop Go.Stop Go.Extern
theorem noIsA (v:Value) (xT:TypeId) (w:World):(Instr.typeAssert (.iface 120 v) xT 216 true).run Tryz.prog w= .ok (.tuple #[.nilIface,.bool false]) w:=run_typeAssert_lacksB Tryz.underlying216 (by kernel_rfl) (by kernel_rfl) v xT w
theorem eqlA (p:Addr) (b:Int) (w:World):(binOp .eql 46 (.iface 120 (.pointer (some p))) (.iface 95 (.int .i64 b))).run Tryz.prog w= .ok (.bool false) w:=by kernel_rfl
theorem isA_any (p:Nat) (a b:Int) (w:World) (h:w.cell? ⟨p,1,none⟩=some (.iface 95 (.int .i64 a))):Calls Tryz.prog 134 #[.iface 120 (.pointer (some ⟨p,0,none⟩)),.iface 95 (.int .i64 b),.bool true] w fun e w'=>e= .returned (.bool (a==b))∧w=w':=by
 have e1:=eqlN a b
 have e2:=eqlA ⟨p,0,none⟩ b
 have n1:=noIsN
 have m1:=noIsA
 have n2:=noUnwrap
 have n3:=noUnwraps
 have hU:=hasUnwrap
 have mU:=zoq
 have HU:=Lib.hid (zox p 0 _ w h)
 clear h
 obtain⟨r,hr⟩: ∃r,r=(a==b):=⟨_,rfl⟩
 rw[←hr]
 rw[←hr]at e1
 clear hr
 cases r with
 |true=>
  go_enter Tryz.func134,Tryz.ntmps134
  go_wp2
  refine wp_loop_rounds 2 ?_
  rw[rounds_succ]
  go_wp2_with(go_at_call 244;refine HU.out.mono ?_;rintro e w' ⟨rfl,rfl⟩)
  rw[rounds_succ]
  go_wp2
  go_ret
  exact⟨rfl,rfl⟩
 |false=>
  go_enter Tryz.func134,Tryz.ntmps134
  go_wp2
  refine wp_loop_rounds 2 ?_
  rw[rounds_succ]
  go_wp2_with(go_at_call 244;refine HU.out.mono ?_;rintro e w' ⟨rfl,rfl⟩)
  rw[rounds_succ]
  go_wp2
  go_ret
  exact⟨rfl,rfl⟩
theorem IsA_any (p:Nat) (a b:Int) (w:World) (h:w.cell? ⟨p,1,none⟩=some (.iface 95 (.int .i64 a))):Calls Tryz.prog 98 #[.iface 120 (.pointer (some ⟨p,0,none⟩)),.iface 95 (.int .i64 b)] w fun e w'=>e= .returned (.bool (a==b))∧w=w':=by
 have h62:= @run_callFunc_extern Tryz.prog 133 _ ReflectliteType.typeOf Tryz.func133 (by kernel_rfl) (by kernel_rfl) (by kernel_rfl) (by kernel_rfl)
 have h63:= @run_callFunc_extern Tryz.prog 253 _ zkp Tryz.func253 (by kernel_rfl) (by kernel_rfl) (by kernel_rfl) (by kernel_rfl)
 have tO:=typeOfN
 have mC:=zix
 have cE:=comparableE
 have HI:=Lib.hid (isA_any p a b w h)
 clear h
 obtain⟨r,hr⟩: ∃r,r=(a==b):=⟨_,rfl⟩
 rw[←hr]at HI⊢
 clear hr
 go_enter Tryz.func98,Tryz.ntmps98
 go_wp2_with(go_at_call 134;(with_reducible refine HI.out.mono ?_);rintro e w' ⟨rfl,rfl⟩)
 go_ret
 exact⟨rfl,rfl⟩
def PErr (v:Value) (w:World):Prop:=CErr 90 v w∨ ∃pos,JErr 90 pos v w
theorem PErr.below {v:Value} {w w':World} (h:PErr v w) (hb:Below w.heap.size w w'):PErr v w':=by
 rcases h with h|⟨p,h⟩
 ·exact .inl (h.below hb)
 ·exact .inr ⟨p,h.below hb⟩
theorem numP {v:Value} {W:World} (h:PErr v W) (hg:ErrTab W):Calls Tryz.prog 35 #[v] W fun e w'=>e= .returned (.int .i64 90)∧Below W.heap.size W w':=by
 rcases h with h|⟨p,h⟩
 ·exact numC h hg
 ·exact numJ h hg
theorem refuse_at (p:Nat) (n pos:Int) (w:World) (h0:w.cell? ⟨p,0,none⟩=some (.int .i64 pos)) (h:w.cell? ⟨p,1,none⟩=some (.iface 95 (.int .i64 n))):Calls Tryz.prog 68 #[.iface 120 (.pointer (some ⟨p,0,none⟩))] w fun e w'=> ∃d x,e= .returned (.iface d x)∧PErr (.iface d x) w'∧Below w.heap.size w w':=by
 have HI:=Lib.hid (IsA_any p n 90 w h)
 have HA:=Lib.hid (And.intro h0 h)
 by_cases h90:n=90
 ·subst h90
  rw[show((90:Int)==90)=true from rfl]at HI
  clear h h0
  go_enter Tryz.func68,Tryz.ntmps68
  go_wp2_with(go_at_call 98;(with_reducible refine HI.out.mono ?_);rintro e w' ⟨rfl,rfl⟩)
  go_ret
  exact⟨_,_,rfl,.inr ⟨_,.inr (.inr ⟨by decide,_,rfl,HA.out.1,HA.out.2⟩)⟩,Below.refl _ _⟩
 ·rw[show(n==90)=false by rw[beq_eq_false_iff_ne];exact h90]at HI
  clear h h0 h90
  go_enter Tryz.func68,Tryz.ntmps68
  go_wp2_with(go_at_call 98;(with_reducible refine HI.out.mono ?_);rintro e w' ⟨rfl,rfl⟩)
  go_ret
  exact⟨_,_,rfl,.inl (.inr (.inr ⟨rfl,_,_,_,rfl,by simp;exact⟨rfl,rfl⟩⟩)),zaf _ _⟩
theorem refuse_json (n pos:Int) (d:TypeId) (x:Value) (w:World) (h:JErr n pos (.iface d x) w):Calls Tryz.prog 68 #[.iface d x] w fun e w'=> ∃d x,e= .returned (.iface d x)∧PErr (.iface d x) w'∧Below w.heap.size w w':=by
 rcases h with⟨_,_,e⟩|⟨hn,_,e⟩|⟨_,b,e,h0,h1⟩
 ·cases e
 ·rw[e]
  refine(refuse_num n hn w).mono ?_
  rintro e w' ⟨d,x,h1,h2,h3⟩
  exact⟨d,x,h1,.inl h2,h3⟩
 ·rw[e];exact refuse_at b n pos w h0 h1
end Go.Proofs.YtjfgmgkhinehaaaGreatDoor
namespace Go.Proofs.YtjfgmgkhinehaaaGreatDoor
open Go Go.RowKit
theorem getL_hasN: ∀(k:List ByteArray) (l:List J) (n:ByteArray),k.length=l.length→(getL k l n).isSome=hasN k n
 |[],[],n,_=>rfl
 |m::r,y::t,n,h=>by
  rw[getL,zkl]
  by_cases e:m=n
  ·subst e;rw[if_pos rfl];simp
  ·rw[if_neg e,getL_hasN r t n (by simpa using h)]
   have:(m.toList==n.toList)=false:=by rw[beq_eq_false_iff_ne];exact fun h=>e (toList_inj h)
   rw[this,Bool.false_or]
theorem zow {l:List Int} (h:(zar l).2.1=0):(zar l).1.kind=5→(zar l).1.k.length=(zar l).1.l.length∧(zar l).1.k.Nodup:=by
 obtain⟨h1,_⟩:=zfs l h
 obtain⟨h3,_,_⟩:=(zfq _).1 h1
 intro hk
 cases hp:(zar l).1 with
 |mk kind n s ls k=>
  rw[hp]at h3 hk
  cases h3 with
  |mk _ _ _ _ _ a1 a2 a3 a4=>
   obtain⟨b1,b2⟩:=a2 hk
   exact⟨b1,(rnL_pair k none b2).1.imp (fun {a b} h=>by rintro rfl;rw[zkt]at h;cases h)⟩
theorem askI_in {j:J} {n:ByteArray} (h:(askI j n).2=0):(getJ j n).isSome=true:=by
 unfold askI zfj zgs at h
 cases hg:getJ j n with
 |none=>rw[hg]at h;cases h
 |some x=>rfl
def zov (p:J×Int×Int) (now:Int):Option (ByteArray×J):=
 if p.2.1≠0 then none else if(zcq ⟨#[]⟩ (askA p.1 now nExp).2 (askU p.1 nSub)).2≠0 then none else some ((zcq ⟨#[]⟩ (askA p.1 now nExp).2 (askU p.1 nSub)).1,zoi [nExp,nSub] p.1)
def PuTells (W:World) (r:Option (ByteArray×J)) (e:Ending) (w':World):Prop:=
 (∃(s:ByteArray) (j:J) (x0 x1:Int) (x2:ByteArray) (xA:Option Addr) (xp xc:Nat) (xK:Option Addr) (xq xd:Nat),r=some (s,j)∧e= .returned (.tuple #[.string s,.agg #[.int .i64 x0,.int .i64 x1,.string x2,.slice xA xp xc,.slice xK xq xd],.nilIface])∧RepJ w' j (.agg #[.int .i64 x0,.int .i64 x1,.string x2,.slice xA xp xc,.slice xK xq xd])∧Below W.heap.size W w')∨
 (r=none∧ ∃d x,e= .returned (.tuple #[.string ⟨#[]⟩,.agg #[.int .i64 0,.int .i64 0,.string ⟨#[]⟩,.slice none 0 0,.slice none 0 0],.iface d x])∧PErr (.iface d x) w'∧Below W.heap.size W w')
theorem PErr.grownC {v:Value} {w w':World} {g:Nat} {t:TypeId} {cs:List Value} (h:PErr v w) (hb:Blk w g t cs) (hcs: ∀(i:Nat) d x,cs[i]? ≠some (.iface d x)) (hg:w.grownBy w' (some g)):PErr v w':=by
 rcases h with h|⟨p,h|h|⟨h,b,e,h0,h1⟩⟩
 ·exact .inl (h.grownC hb (hcs 0) hg)
 ·exact .inr ⟨p,.inl h⟩
 ·exact .inr ⟨p,.inr (.inl h)⟩
 ·have hne:b≠g:=fun e2=>by
   subst e2
   rw[hb.cell]at h1
   exact hcs 1 _ _ h1
  exact .inr ⟨p,.inr (.inr ⟨h,b,e,zcr h0 hg hne,zcr h1 hg hne⟩)⟩
theorem zoh {fn:Func} {p u v:Tmp} {ty:TypeId} (h:fn.results= #[.tmp u,.cell p ty,.tmp v]) (tmps:Array Value) (P:Program) (w:World):
  (results fn tmps).run P w=
   ((asAddr (tmps.getD p undef)).run P w).andThen fun a w₁=>((loadVar ty a).run P w₁).andThen fun x w₂=> .ok (.tuple #[tmps.getD u undef,x,tmps.getD v undef]) w₂:=by
 simp only[results,h]
 simp[Sem.run_bind,Result.andThen]
theorem above_n (now:Int) (w:World):Calls Tryz.prog 70 #[.int .i64 now] w fun e w'=> ∃n,e= .returned (.func (.func 100) #[] #[.pointer (some ⟨n,0,none⟩)])∧w'.cell? ⟨n,0,none⟩=some (.int .i64 now)∧n=w.heap.size∧Below w.heap.size w w':=by
 refine(above_any now w).mono ?_
 rintro e w' ⟨h1,h2,h3⟩
 exact⟨_,h1,h2,rfl,h3⟩
theorem askingIc_n (kb f:Nat) (caps:Array Value) {x0 x1:Int} {x2:ByteArray} {xA:Option Addr} {xp xc:Nat} {xK:Option Addr} {xq xd:Nat} (w:World):
  Calls Tryz.prog 69 #[.agg #[.int .i64 x0,.int .i64 x1,.string x2,.slice xA xp xc,.slice xK xq xd],.pointer (some ⟨kb,0,none⟩),.func (.func f) #[] caps] w fun e w'=> ∃n,e= .returned (.func (.func 99) #[] #[.pointer (some ⟨n+1,0,none⟩),.pointer (some ⟨n+2,0,none⟩),.pointer (some ⟨n,0,none⟩)])∧HeldQ n (n+1) (n+2) kb x0 x1 x2 xA xp xc xK xq xd f caps w'∧n=w.heap.size∧Below w.heap.size w w':=by
 refine(askingI_any kb f caps x0 x1 x2 xA xp xc xK xq xd w).mono ?_
 rintro e w' ⟨h1,h2,h3⟩
 exact⟨_,h1,h2,rfl,h3⟩
theorem eA1: ∀args w,(callFunc 100 args).run Tryz.prog w= .ok (.enter 100 args) w:=enters_of Tryz.func100 (by kernel_rfl) rfl
theorem two_names (w:World):RepK (w.alloc (.cells #[.string nExp,.string nSub] 9)) [nExp,nSub] (.slice (some ⟨w.heap.size,0,none⟩) 2 2):=by
 refine⟨_,2,rfl,by decide,fun _=>⟨w.heap.size,0,rfl,by simp,fun i hi=> ?_⟩⟩
 match i,hi with
 |0,_=>exact⟨nExp,rfl,by decide,by simp⟩
 |1,_=>exact⟨nSub,rfl,by decide,by simp⟩
theorem zeros5_no (i:Nat) (d:TypeId) (x:Value):zeros5[i]? ≠some (.iface d x):=by
 rcases i with _|_|_|_|_|i<;>simp[zeros5]
theorem zop {l:List Int} (h:(zar l).2.1=0):(zar l).1.kind=5→(zar l).1.k.length=(zar l).1.l.length∧(zar l).1.k.Nodup∧(zar l).1.k.length≤256:=fun hk=>⟨(zow h hk).1,(zow h hk).2,((parsed_small h).2 hk).1⟩
theorem askA_kind {j:J} {now:Int} {n:ByteArray} (h:(askA j now n).2=0):j.kind=5:=by
 have h2:(askI j n).2=0:=by
  unfold askA at h
  split at h
  ·cases h
  ·exact h
 have h3:=askI_in h2
 unfold getJ at h3
 split at h3
 ·assumption
 ·cases h3
theorem pushed_any (s:ByteArray) (now:Int) (W:World) (ha:Ask9 W) (hs:s.size≤5000):
  Calls Tryz.prog 31 #[.string s,.int .i64 now] W (PuTells W (zov (zar (strL s)) now)):=by
 have hconv:=fun(W:World)=>Lib.run_convert_string_bytes (P:=Tryz.prog) W 9 80 5 s Tryz.underlying9 Tryz.underlying80 Tryz.underlying5
 have hB0:=zaf W (.cells #[.int .i64 0,.int .i64 0,.string ⟨#[]⟩,.slice none 0 0,.slice none 0 0] 27)
 have hbr0:Blk (W.alloc (.cells #[.int .i64 0,.int .i64 0,.string ⟨#[]⟩,.slice none 0 0,.slice none 0 0] 27)) W.heap.size 27 zeros5:=zcX W rfl zeros5 _
 have HP:=Lib.hid (fun(c:Nat)=>by
  have:=parse_str s c _ (ha.ask.below hB0) hs
  rw[show(W.alloc (.cells #[.int .i64 0,.int .i64 0,.string ⟨#[]⟩,.slice none 0 0,.slice none 0 0] 27)).heap.size=W.heap.size+1 by simp]at this
  exact this)
 have HA:=Lib.hid ha
 have HB0:=Lib.hid hB0
 have HBR0:=Lib.hid hbr0
 have HSML:=Lib.hid (fun h=>parsed_small (l:=strL s) h)
 have HMLD:=Lib.hid (fun h=>(zfs (strL s) h).2)
 have HNMS:=Lib.hid (fun h=>zop (l:=strL s) h)
 obtain⟨r,hr⟩: ∃r,r=zar (strL s):=⟨_,rfl⟩
 rw[←hr]at HP HSML HMLD HNMS⊢
 obtain⟨j,no,po⟩:=r
 obtain⟨R,hR⟩: ∃R,R=zov (j,no,po) now:=⟨_,rfl⟩
 have HR:Hid (R=if no≠0 then none else if(zcq ⟨#[]⟩ (askA j now nExp).2 (askU j nSub)).2≠0 then none else some ((zcq ⟨#[]⟩ (askA j now nExp).2 (askU j nSub)).1,zoi [nExp,nSub] j)):=Lib.hid hR
 rw[←hR]
 clear ha hs hr hR hB0 hbr0
 go_enter Tryz.func31,Tryz.ntmps31
 go_wp2_with fail
 (with_reducible refine(HP.out _).mono ?_)
 rintro e w2 ⟨x0,x1,x2,xA,xp,xc,xK,xq,xd,ev,rfl,hrj,hev,hb⟩
 have HRJ:=Lib.hid hrj
 have hje:=hev.ends
 have HEV:=Lib.hid hev
 have HB2:=Lib.hid (HB0.out.trans (hb.mono (Nat.le_succ _)))
 have hbr2:=HBR0.out.below hb (Nat.lt_succ_self _)
 have HLT2:=Lib.hid hbr2.lt
 clear hrj hev hb hconv HP
 rcases hje with⟨rfl,rfl⟩|⟨hno,d,x,rfl⟩
 case inr=>
  have HRN:Hid (R=none):=Lib.hid (by rw[HR.out,if_pos hno])
  clear hno
  go_wp2_with(first
   |(refine zaK rfl (some 7) rfl _ rfl _ zcs ?_;intro g3 wa3 hg3 hb3 hgr3;have HA3:=Lib.hid hgr3;have HG3:=Lib.hid hg3;have hbr3:=hbr2.grownN hgr3;clear hgr3 hg3;try go_frame)
   |(refine zaQ rfl none rfl _ (.tmp 7) (.tmp 13) rfl g3 0 [.int .i64 x0,.int .i64 x1,.string x2,.slice xA xp xc,.slice xK xq xd] rfl rfl _ _ hb3 (by simp[zeros5]) zaa (by intro v hv;simp at hv;rcases hv with rfl|rfl|rfl|rfl|rfl<;>rfl) ?_;intro w4 hc3 hgs3;rw[zaW _ _ (by simp[zeros5])]at hc3;have HM3:=Lib.hid (zao (Below.refl _ _) HA3.out HG3.out hgs3);have hbr4:=hbr3.grown hgs3 (by intro e;injection e with e;have:=HG3.out;have:=HLT2.out;omega);have HC3:=Lib.hid hc3;have HBR4:=Lib.hid hbr4;clear hgs3 hc3 hb3 hbr3;try go_frame)
   |(go_at_call 68;fail))
  have HB4:=Lib.hid (HB2.out.trans (HM3.out.mono HB2.out.size))
  refine(refuse_json no po d x _ (HEV.out.below HM3.out)).mono ?_
  rintro e w5 ⟨d2,y,rfl,hpe,hb⟩
  have hbr5:=HBR4.out.below hb HBR4.out.lt
  have HBR5:=Lib.hid hbr5
  have HPE:=Lib.hid hpe
  have HB5:=Lib.hid (HB4.out.trans (hb.mono HB4.out.size))
  clear hb hpe hbr4
  go_wp2_with(refine zaQ rfl none rfl _ (.tmp 5) (.tmp 17) rfl W.heap.size 0 [.int .i64 0,.int .i64 0,.string ⟨#[]⟩,.slice none 0 0,.slice none 0 0] rfl rfl _ _ hbr5 (by simp[zeros5]) zaa (by intro v hv;simp at hv;rcases hv with rfl|rfl|rfl<;>rfl) ?_;intro wR hb9 hgr;rw[zaW _ _ (by simp[zeros5])]at hb9;have HB9:=Lib.hid hb9;have HG9:=Lib.hid hgr;clear hgr hb9;try go_frame)
  (try simp only[Exit.inBlock,Exit.then])
  have r0:=HB9.out.cell 0
  have r1:=HB9.out.cell 1
  have r2:=HB9.out.cell 2
  have r3:=HB9.out.cell 3
  have r4:=HB9.out.cell 4
  refine bodyPost_ret (v:= .tuple #[.string ⟨#[]⟩,.agg #[.int .i64 0,.int .i64 0,.string ⟨#[]⟩,.slice none 0 0,.slice none 0 0],.iface d2 y]) ?_ rfl (.inr ⟨HRN.out,d2,y,rfl,HPE.out.grownC HBR5.out zeros5_no HG9.out,HB5.out.grown HG9.out HB5.out.size (by intro b e;injection e with e;omega)⟩)
  rw[zoh rfl];go_simp
 case inl=>
  have hsm:=(HSML.out rfl).1
  have hml:=HMLD.out rfl
  have HR2:Hid (R=if(zcq ⟨#[]⟩ (askA j now nExp).2 (askU j nSub)).2≠0 then none else some ((zcq ⟨#[]⟩ (askA j now nExp).2 (askU j nSub)).1,zoi [nExp,nSub] j)):=Lib.hid (by rw[HR.out,if_neg (by simp)])
  have HAB:=Lib.hid (fun(X:World) (kb:Nat) (hX:Below w2.heap.size w2 X) (hk:X.cell? ⟨kb,0,none⟩=some (.int .i64 now))=>above1_any j _ nExp now kb X (RepJ.below hX _ _ HRJ.out) hsm.items hk)
  have HSU:=Lib.hid (fun(X:World) (hX:Below w2.heap.size w2 X)=>subject_any j _ nSub X (RepJ.below hX _ _ HRJ.out) hsm hml)
  have HWO:=Lib.hid (fun(X:World) (nA:Option Addr) (hX:Below w2.heap.size w2 X) (hk5:j.kind=5) (hn:RepK X [nExp,nSub] (.slice nA 2 2))=>without_any j _ nA 2 2 [nExp,nSub] X (RepJ.below hX _ _ HRJ.out) hsm.items (HNMS.out rfl hk5).1 (HNMS.out rfl hk5).2.2 (HNMS.out rfl hk5).2.1 hn (by decide))
  have hK5:=fun h=>askA_kind (j:=j) (now:=now) (n:=nExp) h
  obtain⟨Q1,hQ1⟩: ∃q,q=askA j now nExp:=⟨_,rfl⟩
  obtain⟨Q2,hQ2⟩: ∃q,q=askU j nSub:=⟨_,rfl⟩
  rw[←hQ1]at HR2 HAB hK5
  rw[←hQ2]at HR2 HSU
  obtain⟨P1,hP1⟩: ∃p,p=zcq (0:Int) 0 Q1:=⟨_,rfl⟩
  have e1:P1=Q1:=hP1
  obtain⟨P2,hP2⟩: ∃p,p=zcq (⟨#[]⟩:ByteArray) Q1.2 Q2:=⟨_,rfl⟩
  rw[←hP2]at HR2
  rw[←e1]at hP2
  have HK5:Hid (P2.2=0→j.kind=5):=Lib.hid fun h=>hK5 (by rw[←e1];rw[hP2]at h;exact(zeK.1 h).1)
  have HP1:=Lib.hid hP1
  have HP2:=Lib.hid hP2
  clear hsm hml HSML HMLD HNMS HR hQ1 hQ2 hP1 hP2 e1 hK5 HEV
  go_wp2_with(first
   |(refine zaK rfl (some 7) rfl _ rfl _ zcs ?_;intro g3 wa3 hg3 hb3 hgr3;have HA3:=Lib.hid hgr3;have HG3:=Lib.hid hg3;have hbr3:=hbr2.grownN hgr3;clear hgr3 hg3;try go_frame)
   |(refine zaQ rfl none rfl _ (.tmp 7) (.tmp 13) rfl g3 0 [.int .i64 x0,.int .i64 x1,.string x2,.slice xA xp xc,.slice xK xq xd] rfl rfl _ _ hb3 (by simp[zeros5]) zaa (by intro v hv;simp at hv;rcases hv with rfl|rfl|rfl|rfl|rfl<;>rfl) ?_;intro w4 hc3 hgs3;rw[zaW _ _ (by simp[zeros5])]at hc3;have HM3:=Lib.hid (zao (Below.refl _ _) HA3.out HG3.out hgs3);have hbr4:=hbr3.grown hgs3 (by intro e;injection e with e;have:=HG3.out;have:=HLT2.out;omega);have HC3:=Lib.hid hc3;have HBR4:=Lib.hid hbr4;clear hgs3 hc3 hb3 hbr3;try go_frame)
   |fail)
  have HM4:=Lib.hid HM3.out
  have HB4:=Lib.hid (HB2.out.trans (HM3.out.mono HB2.out.size))
  have hkt5:Blk (w4.alloc (.cells #[.nilIface] 46)) w4.heap.size 46 [errV 0]:=zcX w4 rfl [errV 0] 46
  have hv5:=HC3.out.grownN (World.grownBy_alloc w4 (.cells #[.nilIface] 46) none)
  have hb45:=zaf w4 (.cells #[.nilIface] 46)
  have hz5:(w4.alloc (.cells #[.nilIface] 46)).heap.size=w4.heap.size+1:=by simp
  obtain⟨w5,hw5⟩: ∃X,X=w4.alloc (.cells #[.nilIface] 46):=⟨_,rfl⟩
  rw[←hw5]at hkt5 hv5 hb45 hz5⊢
  have f0:=hv5.cell 0
  have f1:=hv5.cell 1
  have f2:=hv5.cell 2
  have f3:=hv5.cell 3
  have f4:=hv5.cell 4
  have HKT5:=Lib.hid hkt5
  have HV5:=Lib.hid hv5
  have HB45:=Lib.hid hb45
  have HZ5:=Lib.hid hz5
  have HLV:=Lib.hid (show g3<w4.heap.size from HC3.out.lt)
  clear hkt5 hv5 hb45 hz5 hw5 hbr4
  refine wp_region_held_drew (S:=fun X=>X.cell? ⟨g3,0,none⟩=some (.int .i64 x0)∧X.cell? ⟨g3,1,none⟩=some (.int .i64 x1)∧X.cell? ⟨g3,2,none⟩=some (.string x2)∧X.cell? ⟨g3,3,none⟩=some (.slice xA xp xc)∧X.cell? ⟨g3,4,none⟩=some (.slice xK xq xd)) (by kernel_rfl) ⟨f0,f1,f2,f3,f4⟩ (fun hHeld=> ?_)
  refine rgT 0 ?_
  try simp only[rgS]
  refine rgT 1 ?_
  try simp only[rgS]
  refine rgO 2 (fun K hK=> ?_)
  go_simp
  (with_reducible refine(above_n now _).mono ?_)
  rintro e wA ⟨na,rfl,hca,hna,hbA⟩
  have hbA:Below w5.heap.size w5 wA:=(Below.refl _ w5).drew.trans hbA
  have hvA:=HV5.out.below hbA HV5.out.lt
  refine hK.out _ _ ⟨hvA.cell 0,hvA.cell 1,hvA.cell 2,hvA.cell 3,hvA.cell 4⟩ (fun hH1=> ?_)
  have HCA:=Lib.hid hca
  have HBA:=Lib.hid hbA
  have HVA:=Lib.hid hvA
  clear hK K hHeld hca hna hbA hvA f0 f1 f2 f3 f4
  try simp only[rgS]
  refine rgO 3 (fun K hK=> ?_)
  go_simp
  (with_reducible refine(askingIc_n w4.heap.size 100 #[.pointer (some ⟨na,0,none⟩)] _).mono ?_)
  rintro e wB ⟨n2,rfl,hq2,hn2,hbB⟩
  have hvB:=HVA.out.below hbB HVA.out.lt
  refine hK.out _ _ ⟨hvB.cell 0,hvB.cell 1,hvB.cell 2,hvB.cell 3,hvB.cell 4⟩ (fun hH2=> ?_)
  have HN2:Hid (w4.heap.size<n2):=Lib.hid (by rw[hn2];have:=HBA.out.size;have:=HZ5.out;omega)
  have hca2:=(hbB.cell (p:=⟨na,0,none⟩) (zab HCA.out)).trans HCA.out
  have HCB:=Lib.hid hca2
  have HBB:=Lib.hid (HBA.out.trans (hbB.mono HBA.out.size))
  have HVB:=Lib.hid hvB
  have HQB:=Lib.hid hq2
  have hktB:=HKT5.out.below HBB.out HKT5.out.lt
  have HKTB:=Lib.hid hktB
  clear hK K hH1 hq2 hn2 hbB hca2 hvB hktB HCA HVA
  try simp only[rgS]
  refine rgO 4 (fun K hK=> ?_)
  go_simp
  have HM5:=Lib.hid (HM4.out.trans (HB45.out.mono HM4.out.size))
  have HMB:=Lib.hid (HM5.out.trans (HBB.out.mono HM5.out.size))
  have hcall:=zjf n2 (n2+1) (n2+2) w4.heap.size 100 #[.pointer (some ⟨na,0,none⟩)] x0 x1 x2 xA xp xc xK xq xd nExp 0 Q1 wB HQB.out HKTB.out HN2.out (by omega) (by omega) eA1 (fun _ W9 hW9=>by
   rw[show(#[.agg #[.int .i64 x0,.int .i64 x1,.string x2,.slice xA xp xc,.slice xK xq xd],.string nExp]++ #[.pointer (some ⟨na,0,none⟩)]:Array Value)= #[.agg #[.int .i64 x0,.int .i64 x1,.string x2,.slice xA xp xc,.slice xK xq xd],.string nExp,.pointer (some ⟨na,0,none⟩)]by simp]
   exact HAB.out W9 na (HMB.out.trans (hW9.mono HMB.out.size)) ((hW9.cell (p:=⟨na,0,none⟩) (zab HCB.out)).trans HCB.out))
  refine hcall.mono ?_
  clear hcall
  rintro e wC ⟨rfl,hkC,hgC⟩
  rw[←HP1.out]at hkC⊢
  have hvC:=HVB.out.grown hgC (by intro e;injection e with e;have:=HLV.out;omega)
  refine hK.out _ _ ⟨hvC.cell 0,hvC.cell 1,hvC.cell 2,hvC.cell 3,hvC.cell 4⟩ (fun hH3=> ?_)
  have HVC:=Lib.hid hvC
  have HKC:=Lib.hid hkC
  have HLM:Hid (w2.heap.size≤w4.heap.size∧W.heap.size<w4.heap.size):=Lib.hid ⟨HM4.out.size,by have:=HBR4.out.lt;omega⟩
  have HMC:=Lib.hid (HMB.out.grown hgC HMB.out.size (by intro b e;injection e with e;have:=HLM.out.1;omega))
  have HBC:=Lib.hid (HB2.out.trans (HMC.out.mono HB2.out.size))
  have hbr5:=HBR4.out.grownN (World.grownBy_alloc w4 (.cells #[.nilIface] 46) none)
  have hbrC:Blk wC W.heap.size 27 zeros5:=((HBR4.out.below HB45.out HBR4.out.lt).below HBB.out (HBR4.out.below HB45.out HBR4.out.lt).lt).grown hgC (by intro e;injection e with e;have:=HLM.out.2;omega)
  have HBRC:=Lib.hid hbrC
  have f0:=hvC.cell 0
  have f1:=hvC.cell 1
  have f2:=hvC.cell 2
  have f3:=hvC.cell 3
  have f4:=hvC.cell 4
  clear hK K hH2 hkC hgC hvC hbr5 hbrC
  try simp only[rgS]
  refine wpAnyH_done (by kernel_rfl) ?_ _
  go_wp2_with fail
  (with_reducible refine(zkv w4.heap.size 72 _).mono ?_)
  rintro e wD ⟨n3,rfl,hqD,hn3,hbD⟩
  have HVD:=Lib.hid (HVC.out.below hbD HVC.out.lt)
  have HKD:=Lib.hid (HKC.out.below hbD HKC.out.lt)
  have HMD:=Lib.hid (HMC.out.trans (hbD.mono HMC.out.size))
  have HBRD:=Lib.hid (HBRC.out.below hbD HBRC.out.lt)
  have HQD:=Lib.hid hqD
  have HN3:Hid (w4.heap.size<n3):=Lib.hid (by rw[hn3];exact HKC.out.lt)
  clear hqD hn3 hbD f0 f1 f2 f3 f4
  go_wp2_with fail
  have hcall:=zej n3 (n3+1) (n3+2) w4.heap.size 72 #[] x0 x1 x2 xA xp xc xK xq xd nSub P1.2 Q2 wD HQD.out HKD.out HN3.out (by omega) (by omega) eU (fun _ W9 hW9=>by rw[Array.append_empty];exact HSU.out W9 (HMD.out.trans (hW9.mono HMD.out.size)))
  refine hcall.mono ?_
  clear hcall
  rintro e wE ⟨rfl,hkE,hgE⟩
  rw[←HP2.out]at hkE⊢
  have hvE:=HVD.out.grown hgE (by intro e;injection e with e;have:=HLV.out;omega)
  have HME:=Lib.hid (HMD.out.grown hgE HMD.out.size (by intro b e;injection e with e;have:=HLM.out.1;omega))
  have HBE:=Lib.hid (HB2.out.trans (HME.out.mono HB2.out.size))
  have hbrE:=HBRD.out.grown hgE (by intro e;injection e with e;have:=HLM.out.2;omega)
  have HBRE:=Lib.hid hbrE
  have kc:=hkE.cell 0
  have f0:=hvE.cell 0
  have f1:=hvE.cell 1
  have f2:=hvE.cell 2
  have f3:=hvE.cell 3
  have f4:=hvE.cell 4
  clear hkE hgE hvE
  by_cases h0:P2.2=0
  case neg=>
   have HRN:Hid (R=none):=Lib.hid (by rw[HR2.out,if_pos h0])
   have HRF:=Lib.hid (refuse_num P2.2 h0)
   rw[zkn h0]at kc
   clear h0 f0 f1 f2 f3 f4
   go_wp2_with fail
   refine(HRF.out _).mono ?_
   rintro e w6 ⟨d,x,rfl,hce,hb⟩
   have HCE:=Lib.hid hce
   have hbr6:=HBRE.out.below hb HBRE.out.lt
   have HBR6:=Lib.hid hbr6
   have HB6:=Lib.hid (HBE.out.trans (hb.mono HBE.out.size))
   clear hce hb kc hbrE
   go_wp2_with(refine zaQ rfl none rfl _ (.tmp 5) (.tmp 30) rfl W.heap.size 0 [.int .i64 0,.int .i64 0,.string ⟨#[]⟩,.slice none 0 0,.slice none 0 0] rfl rfl _ _ hbr6 (by simp[zeros5]) zaa (by intro v hv;simp at hv;rcases hv with rfl|rfl|rfl<;>rfl) ?_;intro wR hb9 hgr;rw[zaW _ _ (by simp[zeros5])]at hb9;have HB9:=Lib.hid hb9;have HG9:=Lib.hid hgr;clear hgr hb9;try go_frame)
   (try simp only[Exit.inBlock,Exit.then])
   have r0:=HB9.out.cell 0
   have r1:=HB9.out.cell 1
   have r2:=HB9.out.cell 2
   have r3:=HB9.out.cell 3
   have r4:=HB9.out.cell 4
   refine bodyPost_ret (v:= .tuple #[.string ⟨#[]⟩,.agg #[.int .i64 0,.int .i64 0,.string ⟨#[]⟩,.slice none 0 0,.slice none 0 0],.iface d x]) ?_ rfl (.inr ⟨HRN.out,d,x,rfl,PErr.grownC (.inl HCE.out) HBR6.out zeros5_no HG9.out,HB6.out.grown HG9.out HB6.out.size (by intro b e;injection e with e;omega)⟩)
   rw[zoh rfl];go_simp
  case pos=>
   have HRP:Hid (R=some (P2.1,zoi [nExp,nSub] j)):=Lib.hid (by rw[HR2.out,if_neg (by rw[h0];simp)])
   have hk5:=HK5.out h0
   rw[h0,zeV]at kc
   have hbn:=zaf wE (.cells #[.string nExp,.string nSub] 9)
   have HC:=Lib.hid (HWO.out _ _ (HME.out.trans (hbn.mono HME.out.size)) hk5 (two_names wE))
   have HBN:=Lib.hid hbn
   obtain⟨su,hsu⟩: ∃z,z=P2.1:=⟨_,rfl⟩
   rw[←hsu]at HRP⊢
   clear h0 hk5 hbn hbrE hsu
   go_wp2_with fail
   refine HC.out.mono ?_
   rintro e w6 ⟨v',rfl,hrep,hb⟩
   obtain⟨z0,z1,z2,zA,zp,zc,zK,zq,zd,rfl⟩:=(RepS.toJ _ _ hrep).form
   have hb6:=HBN.out.trans (hb.mono HBN.out.size)
   have hbr6:=HBRE.out.below hb6 HBRE.out.lt
   have HB6:=Lib.hid (HBE.out.trans (hb6.mono HBE.out.size))
   have HRP6:=Lib.hid hrep
   have HLE:=Lib.hid HBRE.out.lt
   clear hb hb6 hrep HC kc f0 f1 f2 f3 f4
   go_wp2_with(refine zaQ rfl none rfl _ (.tmp 5) (.tmp 36) rfl W.heap.size 0 [.int .i64 z0,.int .i64 z1,.string z2,.slice zA zp zc,.slice zK zq zd] rfl rfl _ _ hbr6 (by simp[zeros5]) zaa (by intro v hv;simp at hv;rcases hv with rfl|rfl|rfl|rfl|rfl<;>rfl) ?_;intro wR hb9 hgr;rw[zaW _ _ (by simp[zeros5])]at hb9;have HB9:=Lib.hid hb9;have HG9:=Lib.hid hgr;clear hgr hb9;try go_frame)
   (try simp only[Exit.inBlock,Exit.then])
   have r0:=HB9.out.cell 0
   have r1:=HB9.out.cell 1
   have r2:=HB9.out.cell 2
   have r3:=HB9.out.cell 3
   have r4:=HB9.out.cell 4
   refine bodyPost_ret (v:= .tuple #[.string su,.agg #[.int .i64 z0,.int .i64 z1,.string z2,.slice zA zp zc,.slice zK zq zd],.nilIface]) ?_ rfl (.inl ⟨_,_,_,_,_,_,_,_,_,_,_,HRP.out,rfl,?_,HB6.out.grown HG9.out HB6.out.size (by intro b e;injection e with e;omega)⟩)
   ·rw[zoh rfl];go_simp
   ·exact RepS.toJ _ _ (RepS.keeps (T:=fun _=>True) (Keeps.grown HG9.out (fun b (h:_≤b) e=>by injection e with e;simp at h;have:=HLE.out;omega)) (fun b _ _=>trivial) _ _ HRP6.out)
theorem push_b {j:J} {po now:Int} (h:(askI j nExp).2≠0):zov (j,0,po) now=none:=by
 have e:askA j now nExp=askI j nExp:=if_neg (fun h2=>h h2.1)
 unfold zov
 rw[if_neg (by simp)]
 show(if(zcq ⟨#[]⟩ (askA j now nExp).2 (askU j nSub)).2≠0 then none else _)=none
 rw[e,if_pos (fun h2=>h (zeK.1 h2).1)]
theorem push_c {j:J} {po now:Int} (h0:(askI j nExp).2=0) (h1:(askI j nExp).1≤now):zov (j,0,po) now=none:=by
 have e:askA j now nExp=(0,90):=if_pos ⟨h0,h1⟩
 unfold zov
 rw[if_neg (by simp)]
 show(if(zcq ⟨#[]⟩ (askA j now nExp).2 (askU j nSub)).2≠0 then none else _)=none
 rw[e,if_pos (fun h2=>absurd (zeK.1 h2).1 (by decide))]
theorem push_d {j:J} {po now:Int} (h0:(askI j nExp).2=0) (h1: ¬(askI j nExp).1≤now) (hl:j.k.length=j.l.length):zov (j,0,po) now=match getJ j nSub with
  |none=>some (⟨#[]⟩,zoi [nExp,nSub] j)
  |some x=>if x.kind≠3∨zbh (strL x.s)=false then none else some (x.s,zoi [nExp,nSub] j):=by
 have e:askA j now nExp=askI j nExp:=if_neg (fun h2=>h1 h2.2)
 have hk5:j.kind=5:=by
  have h3:=askI_in h0
  unfold getJ at h3
  split at h3
  ·assumption
  ·cases h3
 have e2:zcq (⟨#[]⟩:ByteArray) (askA j now nExp).2 (askU j nSub)=askU j nSub:=by rw[e,h0];rfl
 have hh:=getL_hasN j.k j.l nSub hl
 have hg:getJ j nSub=getL j.k j.l nSub:=if_pos hk5
 unfold zov
 rw[if_neg (by simp)]
 show(if(zcq ⟨#[]⟩ (askA j now nExp).2 (askU j nSub)).2≠0 then none else some ((zcq ⟨#[]⟩ (askA j now nExp).2 (askU j nSub)).1,zoi [nExp,nSub] j))=_
 rw[e2,hg]
 have ht:askT j nSub=((zgs (getL j.k j.l nSub) 3).1.s,(zgs (getL j.k j.l nSub) 3).2):=by rw[←hg];rfl
 cases hx:getL j.k j.l nSub with
 |none=>
  rw[hx]at hh
  have hu:askU j nSub=(⟨#[]⟩,0):=if_pos hh.symm
  rw[hu,if_neg (by simp)]
 |some x=>
  rw[hx]at hh ht
  have hn: ¬hasN j.k nSub=false:=by rw[←hh];simp
  have hu:askU j nSub=if(askT j nSub).2=0∧zbh (strL (askT j nSub).1)=false then(⟨#[]⟩,90)else askT j nSub:=if_neg hn
  by_cases h3:x.kind=3
  ·have hm:zgs (some x) 3=(x,0):=if_pos h3
   rw[hm]at ht
   have ht2:askT j nSub=(x.s,0):=ht
   show(if(askU j nSub).2≠0 then none else some ((askU j nSub).1,zoi [nExp,nSub] j))=if x.kind≠3∨zbh (strL x.s)=false then none else some (x.s,zoi [nExp,nSub] j)
   cases hnb:zbh (strL x.s)with
   |true=>
    have hv:askU j nSub=(x.s,0):=by rw[hu,ht2];exact if_neg (fun h=>by have:=h.2;rw[hnb]at this;cases this)
    rw[hv,if_neg (fun h=>h rfl),if_neg (fun h=>h.elim (fun a=>a h3) (fun a=>by cases a))]
   |false=>
    have hv:askU j nSub=(⟨#[]⟩,90):=by rw[hu,ht2];exact if_pos ⟨rfl,hnb⟩
    rw[hv,if_pos (show(90:Int)≠0 by decide),if_pos (.inr rfl)]
  ·have hm:zgs (some x) 3=(zeroJ,54):=if_neg h3
   rw[hm]at ht
   have ht2:askT j nSub=(zeroJ.s,54):=ht
   have hv:askU j nSub=(zeroJ.s,54):=by rw[hu,ht2];exact if_neg (fun h=>absurd h.1 (by decide))
   show(if(askU j nSub).2≠0 then none else some ((askU j nSub).1,zoi [nExp,nSub] j))=if x.kind≠3∨zbh (strL x.s)=false then none else some (x.s,zoi [nExp,nSub] j)
   rw[hv,if_pos (show(54:Int)≠0 by decide),if_pos (.inl h3)]
def RefUTells (W:World) (r:Option (ByteArray×J)) (e:Ending) (w':World):Prop:=
 (∃(s:ByteArray) (j:J) (x0 x1:Int) (x2:ByteArray) (xA:Option Addr) (xp xc:Nat) (xK:Option Addr) (xq xd:Nat),r=some (s,j)∧e= .returned (.tuple #[.string s,.agg #[.int .i64 x0,.int .i64 x1,.string x2,.slice xA xp xc,.slice xK xq xd],.bool true])∧RepJ w' j (.agg #[.int .i64 x0,.int .i64 x1,.string x2,.slice xA xp xc,.slice xK xq xd])∧Below W.heap.size W w')∨
 (r=none∧e= .returned (.tuple #[.string ⟨#[]⟩,.agg #[.int .i64 0,.int .i64 0,.string ⟨#[]⟩,.slice none 0 0,.slice none 0 0],.bool false])∧Below W.heap.size W w')
theorem zog {w:World} {g:Nat} {t:TypeId} {a b c d e:Value} (h:Blk w g t [a,b,c,d,e]):w.cell? ⟨g,0,none⟩=some a∧w.cell? ⟨g,1,none⟩=some b∧w.cell? ⟨g,2,none⟩=some c∧w.cell? ⟨g,3,none⟩=some d∧w.cell? ⟨g,4,none⟩=some e:=⟨h.cell 0,h.cell 1,h.cell 2,h.cell 3,h.cell 4⟩
theorem has_two {t:ByteArray}:hasN [nExp,nSub] t=(decide (t=nExp)||decide (t=nSub)):=by
 rw[Bool.eq_iff_iff,hasN_iff];simp
theorem putsL_len: ∀(n:Nat) (ms:List (ByteArray×J)),ms.length=n→(zdZ ms).1.length=(zdZ ms).2.length∧(zdZ ms).1.length≤n
 |0,ms,h=>by rw[List.eq_nil_of_length_eq_zero h];exact⟨rfl,Nat.le_refl _⟩
 |n+1,ms,h=>by
  obtain⟨m,t,x,rfl⟩: ∃m t x,ms=m++[(t,x)]:=⟨ms.dropLast,(ms.getLast (by intro e;rw[e]at h;cases h)).1,(ms.getLast (by intro e;rw[e]at h;cases h)).2,(List.dropLast_concat_getLast _).symm⟩
  obtain⟨h1,h2⟩:=putsL_len n m (by simpa using h)
  rw[zgW]
  have:=zou t x (zdZ m).1 false (zdZ m).2
  rw[if_neg (by decide)]at this
  exact⟨this.1,by omega⟩
theorem keepM_len (ns:List ByteArray) (ms:List (ByteArray×J)):(zok ns ms).length≤ms.length:=List.length_filter_le _ _
def MembInS (W:World) (S:Nat→Prop) (j:J) (yA yK:Option Addr) (i:Nat):Prop:= ∃gn on gv ov t x x0 x1 x2 xA xp xc xK xq xd,yK=some ⟨gn,on,none⟩∧yA=some ⟨gv,ov,none⟩∧gn<W.heap.size∧gv<W.heap.size∧(j.k.zip j.l)[i]? =some (t,x)∧t.size≤9223372036854775807∧RepS W S x (.agg #[.int .i64 x0,.int .i64 x1,.string x2,.slice xA xp xc,.slice xK xq xd])∧W.cell? ⟨gn,on+i,none⟩=some (.string t)∧
 W.cell? ⟨gv,ov+i*5,none⟩=some (.int .i64 x0)∧W.cell? ⟨gv,ov+i*5+1,none⟩=some (.int .i64 x1)∧W.cell? ⟨gv,ov+i*5+2,none⟩=some (.string x2)∧W.cell? ⟨gv,ov+i*5+3,none⟩=some (.slice xA xp xc)∧W.cell? ⟨gv,ov+i*5+4,none⟩=some (.slice xK xq xd)
theorem memb_inS {W:World} {S:Nat→Prop} {j:J} {y0 y1:Int} {y2:ByteArray} {yA:Option Addr} {yp yc:Nat} {yK:Option Addr} {yq yd:Nat} (h:RepS W S j (.agg #[.int .i64 y0,.int .i64 y1,.string y2,.slice yA yp yc,.slice yK yq yd])) (hkl:j.k.length=j.l.length):
  yq=j.k.length∧yp=j.l.length∧ ∀i,i<j.k.length→MembInS W S j yA yK i:=by
 obtain⟨vk,A,c,e, -,⟨K,d,rfl, -,hkc⟩, -,hc⟩:=h.open
 injection e with e
 have e:=congrArg Array.toList e
 simp only[List.cons.injEq,Value.int.injEq,Value.string.injEq,Value.slice.injEq,true_and,and_true]at e
 obtain⟨-, -, -,⟨rfl,rfl, -⟩,⟨rfl,rfl, -⟩⟩:=e
 refine⟨rfl,rfl,fun i hi=> ?_⟩
 obtain⟨gn,on,rfl, -,hgn,hkk⟩:=hkc (fun e=>by rw[e]at hi;exact absurd hi (Nat.not_lt_zero _))
 obtain⟨t,ht1,hts,hcn⟩:=hkk i hi
 rw[List.getElem?_eq_getElem hi]at ht1
 injection ht1 with ht1
 subst ht1
 have hil:i<j.l.length:=by omega
 obtain⟨gv,ov,rfl, -,hgv,hcv⟩:=hc (fun e=>by rw[e]at hil;exact absurd hil (Nat.not_lt_zero _))
 obtain⟨v,hr,a0,a1,a2,a3,a4,rfl,c0,c1,c2,c3,c4⟩:=hcv.at i hil
 obtain⟨x0,x1,x2,xA,xp,xc,xK,xq,xd,e⟩:=(RepS.toJ _ _ hr).form
 injection e with e
 have e:=congrArg Array.toList e
 simp only[List.cons.injEq,and_true]at e
 obtain⟨rfl,rfl,rfl,rfl,rfl⟩:=e
 exact⟨gn,on,gv,ov,j.k[i],j.l[i],x0,x1,x2,xA,xp,xc,xK,xq,xd,rfl,rfl,hgn,hgv,List.getElem?_zip_eq_some.2 ⟨List.getElem?_eq_getElem hi,List.getElem?_eq_getElem hil⟩,hts,hr,hcn,c0,c1,c2,c3,c4⟩
theorem zpZ (s:ByteArray) (W:World) (hs:s.size≤5000):Calls Tryz.prog 66 #[.string s] W fun e w'=>
  ∃x0 x1 x2 xA xp xc xK xq xd,e= .returned (.tuple #[.agg #[.int .i64 x0,.int .i64 x1,.string x2,.slice xA xp xc,.slice xK xq xd],.int .i64 (zar (strL s)).2.1,.int .i64 (zar (strL s)).2.2])∧RepS w' (fun b=>W.heap.size≤b) (zar (strL s)).1 (.agg #[.int .i64 x0,.int .i64 x1,.string x2,.slice xA xp xc,.slice xK xq xd])∧Below W.heap.size W w':=by
 rw[zib]
 refine(refParse_any s W (by omega)).mono ?_
 rintro e w' ⟨v,rfl,hr,hb⟩
 obtain⟨x0,x1,x2,A,p,c,K,q,d,rfl⟩:=(RepS.toJ _ _ hr).form
 exact⟨_,_,_,_,_,_,_,_,_,rfl,hr,hb⟩
theorem RepS.under {W W':World} {B:Nat} {j:J} {v:Value} (h:RepS W (fun b=>B<b) j v) (hb:Below W.heap.size W W'):RepS W' (fun b=>B<b) j v:=RepS.keeps (Keeps.below hb (fun _ _ h=>h)) (fun _ h _=>h) _ _ h
def UInv (B0:Nat) (wq wr:World) (g:Nat) (P:List ByteArray×List J):Prop:=Below wq.heap.size wq wr∧g<wr.heap.size∧ ∃(z0 z1:Int) (z2:ByteArray) (zA:Option Addr) (zp zc:Nat) (zK:Option Addr) (zq zd:Nat),Blk wr g 27 [.int .i64 z0,.int .i64 z1,.string z2,.slice zA zp zc,.slice zK zq zd]∧RepS wr (fun b=>b≠g∧b≠B0∧b<wr.heap.size) (.mk 5 0 ⟨#[]⟩ P.2 P.1) (.agg #[.int .i64 z0,.int .i64 z1,.string z2,.slice zA zp zc,.slice zK zq zd])
theorem zpQ (s:ByteArray) (now:Int) (W:World) (hs:s.size≤5000):
  Calls Tryz.prog 32 #[.string s,.int .i64 now] W (RefUTells W (zov (zar (strL s)) now)):=by
 have hB0:=zaf W (.cells #[.int .i64 0,.int .i64 0,.string ⟨#[]⟩,.slice none 0 0,.slice none 0 0] 27)
 have hbr0:Blk (W.alloc (.cells #[.int .i64 0,.int .i64 0,.string ⟨#[]⟩,.slice none 0 0,.slice none 0 0] 27)) W.heap.size 27 zeros5:=zcX W rfl zeros5 _
 have HP:=Lib.hid (zpZ s (W.alloc (.cells #[.int .i64 0,.int .i64 0,.string ⟨#[]⟩,.slice none 0 0,.slice none 0 0] 27)) hs)
 have HB0:=Lib.hid hB0
 have HBR0:=Lib.hid hbr0
 have HNMS:=Lib.hid (fun h=>zop (l:=strL s) h)
 obtain⟨r,hr⟩: ∃r,r=zar (strL s):=⟨_,rfl⟩
 rw[←hr]at HP HNMS⊢
 obtain⟨j,no,po⟩:=r
 obtain⟨R,hR⟩: ∃R,R=zov (j,no,po) now:=⟨_,rfl⟩
 have HR:=Lib.hid hR
 rw[←hR]
 clear hs hr hR hB0 hbr0
 go_enter Tryz.func32,Tryz.ntmps32
 go_wp2_with fail
 (with_reducible refine HP.out.mono ?_)
 rintro e w2 ⟨x0,x1,x2,xA,xp,xc,xK,xq,xd,rfl,hrj,hb⟩
 have hz1:(W.alloc (.cells #[.int .i64 0,.int .i64 0,.string ⟨#[]⟩,.slice none 0 0,.slice none 0 0] 27)).heap.size=W.heap.size+1:=by simp
 have HRJ:Hid (RepS w2 (fun b=>W.heap.size<b) j (.agg #[.int .i64 x0,.int .i64 x1,.string x2,.slice xA xp xc,.slice xK xq xd])):=Lib.hid (RepS.keeps (Keeps.refl _ w2) (fun b (h:_≤b) _=>show W.heap.size<b by rw[hz1]at h;omega) _ _ hrj)
 have HB2:=Lib.hid (HB0.out.trans (hb.mono (by rw[hz1];exact Nat.le_succ _)))
 have HBR2:=Lib.hid (HBR0.out.below hb (by rw[hz1];exact Nat.lt_succ_self _))
 clear hrj hb HP hz1
 dsimp only
 go_wp2_with(first
  |(refine zaK rfl (some 7) rfl _ rfl _ zcs ?_;intro g7 wa7 hg7 hb7 hgr7;have HA7:=Lib.hid hgr7;have HG7:=Lib.hid hg7;clear hgr7 hg7;try go_frame)
  |(refine zaQ rfl none rfl _ (.tmp 7) (.tmp 20) rfl g7 0 [.int .i64 x0,.int .i64 x1,.string x2,.slice xA xp xc,.slice xK xq xd] rfl rfl _ _ hb7 (by simp[zeros5]) zaa (by intro v hv;simp at hv;rcases hv with rfl|rfl|rfl|rfl|rfl<;>rfl) ?_;intro ws7 hc7 hgs7;rw[zaW _ _ (by simp[zeros5])]at hc7;have HM7:=Lib.hid (zao (Below.refl _ _) HA7.out HG7.out hgs7);have HC7:=Lib.hid hc7;obtain⟨p70,p71,p72,p73,p74⟩:=zog hc7;clear hgs7 hc7 hb7;try go_frame)
  |fail)
 have HB4:=Lib.hid (HB2.out.trans (HM7.out.mono HB2.out.size))
 have HBR4:=Lib.hid (HBR2.out.below HM7.out HBR2.out.lt)
 have HRJ4:=Lib.hid (HRJ.out.under HM7.out)
 refine(refIntC_any j _ nExp _ (RepS.toJ _ _ HRJ4.out) (by decide)).mono ?_
 rintro e w5 ⟨rfl,hb⟩
 have HB5:=Lib.hid (HB4.out.trans (hb.mono HB4.out.size))
 have hbr5:=HBR4.out.below hb HBR4.out.lt
 have HBR5:=Lib.hid hbr5
 have HRJ5:=Lib.hid (HRJ4.out.under hb)
 have hc5:=HC7.out.below hb HC7.out.lt
 have HC5:=Lib.hid hc5
 obtain⟨f0,f1,f2,f3,f4⟩:=zog hc5
 clear hb p70 p71 p72 p73 p74 hc5
 obtain⟨q,hq⟩: ∃q,q=askI j nExp:=⟨_,rfl⟩
 rw[←hq]
 obtain⟨n,qe⟩:=q
 have HQ1:Hid ((askI j nExp).1=n):=Lib.hid (by rw[←hq])
 have HQ2:Hid ((askI j nExp).2=qe):=Lib.hid (by rw[←hq])
 clear hq
 dsimp only
 by_cases hno:no=0
 case neg=>
  have HRN:Hid (R=none):=Lib.hid (by rw[HR.out];exact if_pos hno)
  have b0:(no==0)=false:=by rw[beq_eq_false_iff_ne];exact hno
  go_wp2_with(refine zaQ rfl none rfl _ (.tmp 5) (.tmp 39) rfl W.heap.size 0 [.int .i64 0,.int .i64 0,.string ⟨#[]⟩,.slice none 0 0,.slice none 0 0] rfl rfl _ _ hbr5 (by simp[zeros5]) zaa (by intro v hv;simp at hv;rcases hv with rfl|rfl|rfl<;>rfl) ?_;intro wR hb9 hgr;rw[zaW _ _ (by simp[zeros5])]at hb9;have HB9:=Lib.hid hb9;have HG9:=Lib.hid hgr;clear hgr hb9;try go_frame)
  (try simp only[Exit.inBlock,Exit.then])
  have r0:=HB9.out.cell 0
  have r1:=HB9.out.cell 1
  have r2:=HB9.out.cell 2
  have r3:=HB9.out.cell 3
  have r4:=HB9.out.cell 4
  refine bodyPost_ret (v:= .tuple #[.string ⟨#[]⟩,.agg #[.int .i64 0,.int .i64 0,.string ⟨#[]⟩,.slice none 0 0,.slice none 0 0],.bool false]) ?_ rfl (.inr ⟨HRN.out,rfl,HB5.out.grown HG9.out HB5.out.size (by intro b e;injection e with e;omega)⟩)
  rw[zoh rfl];go_simp
 case pos=>
 subst hno
 by_cases hqe:qe=0
 case neg=>
  have HRN:Hid (R=none):=Lib.hid (by rw[HR.out];exact push_b (by rw[HQ2.out];exact hqe))
  have b0:decide (qe=0)=false:=decide_eq_false hqe
  go_wp2_with(refine zaQ rfl none rfl _ (.tmp 5) (.tmp 39) rfl W.heap.size 0 [.int .i64 0,.int .i64 0,.string ⟨#[]⟩,.slice none 0 0,.slice none 0 0] rfl rfl _ _ hbr5 (by simp[zeros5]) zaa (by intro v hv;simp at hv;rcases hv with rfl|rfl|rfl<;>rfl) ?_;intro wR hb9 hgr;rw[zaW _ _ (by simp[zeros5])]at hb9;have HB9:=Lib.hid hb9;have HG9:=Lib.hid hgr;clear hgr hb9;try go_frame)
  (try simp only[Exit.inBlock,Exit.then])
  have r0:=HB9.out.cell 0
  have r1:=HB9.out.cell 1
  have r2:=HB9.out.cell 2
  have r3:=HB9.out.cell 3
  have r4:=HB9.out.cell 4
  refine bodyPost_ret (v:= .tuple #[.string ⟨#[]⟩,.agg #[.int .i64 0,.int .i64 0,.string ⟨#[]⟩,.slice none 0 0,.slice none 0 0],.bool false]) ?_ rfl (.inr ⟨HRN.out,rfl,HB5.out.grown HG9.out HB5.out.size (by intro b e;injection e with e;omega)⟩)
  rw[zoh rfl];go_simp
 case pos=>
 subst hqe
 have b0:decide ((0:Int)=0)=true:=rfl
 by_cases hle:n≤now
 case pos=>
  have HRN:Hid (R=none):=Lib.hid (by rw[HR.out];exact push_c HQ2.out (by rw[HQ1.out];exact hle))
  go_wp2_with(refine zaQ rfl none rfl _ (.tmp 5) (.tmp 39) rfl W.heap.size 0 [.int .i64 0,.int .i64 0,.string ⟨#[]⟩,.slice none 0 0,.slice none 0 0] rfl rfl _ _ hbr5 (by simp[zeros5]) zaa (by intro v hv;simp at hv;rcases hv with rfl|rfl|rfl<;>rfl) ?_;intro wR hb9 hgr;rw[zaW _ _ (by simp[zeros5])]at hb9;have HB9:=Lib.hid hb9;have HG9:=Lib.hid hgr;clear hgr hb9;try go_frame)
  (try simp only[Exit.inBlock,Exit.then])
  have r0:=HB9.out.cell 0
  have r1:=HB9.out.cell 1
  have r2:=HB9.out.cell 2
  have r3:=HB9.out.cell 3
  have r4:=HB9.out.cell 4
  refine bodyPost_ret (v:= .tuple #[.string ⟨#[]⟩,.agg #[.int .i64 0,.int .i64 0,.string ⟨#[]⟩,.slice none 0 0,.slice none 0 0],.bool false]) ?_ rfl (.inr ⟨HRN.out,rfl,HB5.out.grown HG9.out HB5.out.size (by intro b e;injection e with e;omega)⟩)
  rw[zoh rfl];go_simp
 case neg=>
 have hk5:j.kind=5:=by
  have h3:=askI_in HQ2.out
  unfold getJ at h3
  split at h3
  ·assumption
  ·cases h3
 have hnm:=HNMS.out rfl hk5
 have HRD:Hid (R=match getJ j nSub with
  |none=>some (⟨#[]⟩,zoi [nExp,nSub] j)
  |some x=>if x.kind≠3∨zbh (strL x.s)=false then none else some (x.s,zoi [nExp,nSub] j)):=Lib.hid (by rw[HR.out];exact push_d HQ2.out (by rw[HQ1.out];exact hle) hnm.1)
 have HG:=Lib.hid (zgK j _ nSub w5 (RepS.toJ _ _ HRJ5.out) (by decide))
 have HNM:=Lib.hid hnm
 obtain⟨g,hg⟩: ∃g,g=getJ j nSub:=⟨_,rfl⟩
 rw[←hg]at HRD HG
 clear hk5 hnm hg HR HNMS
 go_wp2_with fail
 refine HG.out.mono ?_
 rintro e w6 ⟨v,rfl,hrv,hb⟩
 obtain⟨y0,y1,y2,yA,yp,yc,yK,yq,yd,rfl⟩:=hrv.form
 have HPV:=Lib.hid hrv.parts
 have HB6:=Lib.hid (HB5.out.trans (hb.mono HB5.out.size))
 have HBR6:=Lib.hid (HBR5.out.below hb HBR5.out.lt)
 have HC6:=Lib.hid (HC5.out.below hb HC5.out.lt)
 have HRJ6:=Lib.hid (HRJ5.out.under hb)
 clear hb hrv HG f0 f1 f2 f3 f4 hbr5
 go_upto_if 45 with(first
  |(refine zaK rfl (some 13) rfl _ rfl _ zcs ?_;intro g3 wa3 hg3 hb3 hgr3;have HA3:=Lib.hid hgr3;have HG3:=Lib.hid hg3;clear hgr3 hg3;try go_frame)
  |(refine zaQ rfl none rfl _ (.tmp 13) (.tmp 43) rfl g3 0 [.int .i64 y0,.int .i64 y1,.string y2,.slice yA yp yc,.slice yK yq yd] rfl rfl _ _ hb3 (by simp[zeros5]) zaa (by intro v hv;simp at hv;rcases hv with rfl|rfl|rfl|rfl|rfl<;>rfl) ?_;intro ws3 hc3 hgs3;rw[zaW _ _ (by simp[zeros5])]at hc3;have HM3:=Lib.hid (zao (Below.refl _ _) HA3.out HG3.out hgs3);have HC3:=Lib.hid hc3;obtain⟨p30,p31,p32,p33,p34⟩:=zog hc3;clear hgs3 hc3 hb3;try go_frame))
 go_cut[12]from 17 (fun v12 wx=> ∃sub,v12= .string sub∧Below w6.heap.size w6 wx∧Hid (R=some (sub,zoi [nExp,nSub] j)))
 case first=>
  cases g with
  |none=>
   have HRN:Hid (R=some (⟨#[]⟩,zoi [nExp,nSub] j)):=Lib.hid HRD.out
   go_wp2_with fail
   go_meet
   case rel=>exact⟨_,rfl,HM3.out,HRN⟩
  |some x=>
   obtain⟨e0, -,e2, -, -⟩:=HPV.out
   replace e0:y0=x.kind:=e0
   replace e2:y2=x.s:=e2
   have HB7:=Lib.hid (HB6.out.trans (HM3.out.mono HB6.out.size))
   have hbr7:=HBR6.out.below HM3.out HBR6.out.lt
   have HRX:Hid (R=if x.kind≠3∨zbh (strL x.s)=false then none else some (x.s,zoi [nExp,nSub] j)):=Lib.hid HRD.out
   rw[←e0,←e2]at HRX
   have HNA:=Lib.hid (fun(X:World)=>zgr y2 X)
   clear e0 e2
   by_cases h3:y0=3
   case neg=>
    have HRN:Hid (R=none):=Lib.hid (by rw[HRX.out,if_pos (.inl h3)])
    have b3:(y0==3)=false:=by rw[beq_eq_false_iff_ne];exact h3
    go_wp2_with(refine zaQ rfl none rfl _ (.tmp 5) (.tmp 55) rfl W.heap.size 0 [.int .i64 0,.int .i64 0,.string ⟨#[]⟩,.slice none 0 0,.slice none 0 0] rfl rfl _ _ hbr7 (by simp[zeros5]) zaa (by intro v hv;simp at hv;rcases hv with rfl|rfl|rfl<;>rfl) ?_;intro wR hb9 hgr;rw[zaW _ _ (by simp[zeros5])]at hb9;have HB9:=Lib.hid hb9;have HG9:=Lib.hid hgr;clear hgr hb9;try go_frame)
    (try simp only[Exit.inBlock,Exit.then])
    have r0:=HB9.out.cell 0
    have r1:=HB9.out.cell 1
    have r2:=HB9.out.cell 2
    have r3:=HB9.out.cell 3
    have r4:=HB9.out.cell 4
    refine bodyPost_ret (v:= .tuple #[.string ⟨#[]⟩,.agg #[.int .i64 0,.int .i64 0,.string ⟨#[]⟩,.slice none 0 0,.slice none 0 0],.bool false]) ?_ rfl (.inr ⟨HRN.out,rfl,HB7.out.grown HG9.out HB7.out.size (by intro b e;injection e with e;omega)⟩)
    rw[zoh rfl];go_simp
   case pos=>
    subst h3
    obtain⟨nb,hnb⟩: ∃b,b=zbh (strL y2):=⟨_,rfl⟩
    rw[←hnb]at HRX HNA
    clear hnb
    cases nb with
    |false=>
     have HRN:Hid (R=none):=Lib.hid (by rw[HRX.out,if_pos (.inr rfl)])
     go_wp2_with(first
      |(go_at_call 60;(with_reducible refine(HNA.out _).mono ?_);rintro e w' ⟨rfl,hw'⟩;rw[←hw'];clear hw')
      |(refine zaQ rfl none rfl _ (.tmp 5) (.tmp 55) rfl W.heap.size 0 [.int .i64 0,.int .i64 0,.string ⟨#[]⟩,.slice none 0 0,.slice none 0 0] rfl rfl _ _ hbr7 (by simp[zeros5]) zaa (by intro v hv;simp at hv;rcases hv with rfl|rfl|rfl<;>rfl) ?_;intro wR hb9 hgr;rw[zaW _ _ (by simp[zeros5])]at hb9;have HB9:=Lib.hid hb9;have HG9:=Lib.hid hgr;clear hgr hb9;try go_frame))
     (try simp only[Exit.inBlock,Exit.then])
     have r0:=HB9.out.cell 0
     have r1:=HB9.out.cell 1
     have r2:=HB9.out.cell 2
     have r3:=HB9.out.cell 3
     have r4:=HB9.out.cell 4
     refine bodyPost_ret (v:= .tuple #[.string ⟨#[]⟩,.agg #[.int .i64 0,.int .i64 0,.string ⟨#[]⟩,.slice none 0 0,.slice none 0 0],.bool false]) ?_ rfl (.inr ⟨HRN.out,rfl,HB7.out.grown HG9.out HB7.out.size (by intro b e;injection e with e;omega)⟩)
     rw[zoh rfl];go_simp
    |true=>
     have HRN:Hid (R=some (y2,zoi [nExp,nSub] j)):=Lib.hid (by rw[HRX.out,if_neg (fun h=>h.elim (fun a=>a rfl) (fun a=>by cases a))])
     go_wp2_with(first
      |(go_at_call 60;(with_reducible refine(HNA.out _).mono ?_);rintro e w' ⟨rfl,hw'⟩;rw[←hw'];clear hw'))
     go_meet
     case rel=>exact⟨_,rfl,HM3.out,HRN⟩
 case rest=>
  obtain⟨sub,rfl,hbx,HRS⟩:=hcut
  have HBQ:=Lib.hid (HB6.out.trans (hbx.mono HB6.out.size))
  have HBRQ:=Lib.hid (HBR6.out.below hbx HBR6.out.lt)
  have hcq:=HC6.out.below hbx HC6.out.lt
  have HCQ:=Lib.hid hcq
  obtain⟨e1,e2,hmb⟩:=memb_inS (HRJ6.out.under hbx) HNM.out.1
  rename World=>wq
  have HMB:Hid (∀i,i<xq→MembInS wq (fun b=>W.heap.size<b) j xA xK i):=Lib.hid fun i hi=>hmb i (by omega)
  have HL:Hid (xq≤256∧(j.k.zip j.l).length=xq):=Lib.hid ⟨by rw[e1];exact HNM.out.2.2,by rw[List.length_zip,←HNM.out.1,Nat.min_self,e1]⟩
  have hn256:xq≤256:=HL.out.1
  have hpq:xp=xq:=by rw[e1,e2,HNM.out.1]
  subst hpq
  have HQL:=Lib.hid HCQ.out.lt
  obtain⟨f0,f1,f2,f3,f4⟩:=zog hcq
  clear hcq e1 e2 hmb hbx HPV
  go_wp2_with(first
   |(refine zaK rfl (some 15) rfl _ rfl _ zcs ?_;intro g5 wa5 hg5 hb5 hgr5;have HA5:=Lib.hid hgr5;have HG5:=Lib.hid hg5;clear hgr5 hg5;try go_frame)
   |(refine zaQ rfl none rfl _ (.tmp 15) (.tmp 58) rfl g5 0 [.int .i64 5,.int .i64 0,.string ⟨#[]⟩,.slice none 0 0,.slice none 0 0] rfl rfl _ _ hb5 (by simp[zeros5]) zaa (by intro v hv;simp at hv;rcases hv with rfl|rfl|rfl|rfl<;>rfl) ?_;intro ws5 hc5 hgs5;rw[zaW _ _ (by simp[zeros5])]at hc5;have HM5:=Lib.hid (zao (Below.refl _ _) HA5.out HG5.out hgs5);have HC5:=Lib.hid hc5;obtain⟨p50,p51,p52,p53,p54⟩:=zog hc5;clear hgs5 hc5 hb5;try go_frame)
   |fail)
  have HG15:=Lib.hid HC5.out.lt
  have HU0:Hid (UInv W.heap.size wq ws5 g5 (zdZ (zok [nExp,nSub] ((j.k.zip j.l).take 0)))):=Lib.hid ⟨HM5.out,HC5.out.lt,_,_,_,_,_,_,_,_,_,HC5.out,RepS.plain ws5 _ 5 0 ⟨#[]⟩ (by decide)⟩
  clear p50 p51 p52 p53 p54
  go_loopw[16] (fun v16 wr=> ∃i:Nat,i≤xp∧v16= .int .i64 (i:Int)∧Hid (UInv W.heap.size wq wr g5 (zdZ (zok [nExp,nSub] ((j.k.zip j.l).take i))))) (fun v16 _=>xp-(intOf v16).toNat)
  case atStart=>exact⟨0,Nat.zero_le _,rfl,HU0⟩
  case round=>
   obtain⟨i,hi,rfl,HU⟩:=hrel
   obtain⟨hbel,hglt,z0,z1,z2,zA,zp,zc,zK,zq,zd,hblk,hrep⟩:=HU.out
   by_cases hlt:i<xp
   ·have hk0:(0:Int)≤(i:Int):=by omega
    have hk1:(i:Int)<(xp:Int):=by omega
    obtain⟨gn,on,gv,ov,t,x,y0,y1,y2,yA,yp,yc,yK,yq,yd,rfl,rfl,hgn,hgv,hzi,hts,hx,kc,l0,l1,l2,l3,l4⟩:=HMB.out i hlt
    have HSX:Hid (∀X,Below wq.heap.size wq X→(X.cell? ⟨g7,0,none⟩=some (.int .i64 x0)∧X.cell? ⟨g7,1,none⟩=some (.int .i64 x1)∧X.cell? ⟨g7,2,none⟩=some (.string x2)∧X.cell? ⟨g7,3,none⟩=some (.slice (some ⟨gv,ov,none⟩) xp xc)∧X.cell? ⟨g7,4,none⟩=some (.slice (some ⟨gn,on,none⟩) xp xd)∧X.cell? ⟨gn,on+i,none⟩=some (.string t)∧X.cell? ⟨gv,ov+i*5,none⟩=some (.int .i64 y0)∧X.cell? ⟨gv,ov+i*5+1,none⟩=some (.int .i64 y1)∧X.cell? ⟨gv,ov+i*5+2,none⟩=some (.string y2)∧X.cell? ⟨gv,ov+i*5+3,none⟩=some (.slice yA yp yc)∧X.cell? ⟨gv,ov+i*5+4,none⟩=some (.slice yK yq yd))):=Lib.hid fun X hX=>by
     have cc: ∀b o u,b<wq.heap.size→wq.cell? ⟨b,o,none⟩=some u→X.cell? ⟨b,o,none⟩=some u:=fun b o u hb h=>(hX.cell (p:=⟨b,o,none⟩) hb).trans h
     obtain⟨q0,q1,q2,q3,q4⟩:=zog (HCQ.out.below hX HQL.out)
     exact⟨q0,q1,q2,q3,q4,cc _ _ _ hgn kc,cc _ _ _ hgv l0,cc _ _ _ hgv l1,cc _ _ _ hgv l2,cc _ _ _ hgv l3,cc _ _ _ hgv l4⟩
    have hzl:i<(j.k.zip j.l).length:=by rw[HL.out.2];exact hlt
    have hze:(j.k.zip j.l)[i]=(t,x):=by rw[List.getElem?_eq_getElem hzl]at hzi;injection hzi
    have HKT:=Lib.hid (zoz (ns:=[nExp,nSub]) hzl)
    rw[hze]at HKT
    dsimp only at HKT
    rw[has_two]at HKT
    have x1:([101,120,112]:List UInt8)=nExp.toList:=by kernel_rfl
    have x2:([115,117,98]:List UInt8)=nSub.toList:=by kernel_rfl
    obtain⟨E1,hE1⟩: ∃b,b=decide (t=nExp):=⟨_,rfl⟩
    obtain⟨E2,hE2⟩: ∃b,b=decide (t=nSub):=⟨_,rfl⟩
    have g1:(t.toList==[101,120,112])=E1:=by rw[x1,zdJ,hE1]
    have g2:(t.toList==[115,117,98])=E2:=by rw[x2,zdJ,hE2]
    have d1:(t.toList=[101,120,112])↔E1=true:=by rw[←g1,beq_iff_eq]
    rw[←hE1,←hE2]at HKT
    have hrx:=RepS.keeps (T:=fun b=>W.heap.size<b∧b<wq.heap.size) (Keeps.below hbel (fun b _ h=>h)) (fun b h hb=>⟨h,hb⟩) _ _ hx
    obtain⟨f0,f1,f2,f3,f4,kc,l0,l1,l2,l3,l4⟩:=HSX.out wr hbel
    have HRX:=Lib.hid hrx
    have HTS:=Lib.hid hts
    have HBEL:=Lib.hid hbel
    have HBLK:=Lib.hid hblk
    have HREP:=Lib.hid hrep
    have HGLT:=Lib.hid hglt
    have HGQ:=Lib.hid (show wq.heap.size≤g5 from HG5.out)
    clear hzi hx hzl hze x1 x2 hE1 hE2 hrx hts hgn hgv
    cases E1 with
    |true=>
     have d2:=d1.2 rfl
     clear d1
     go_wp2_with fail
     go_roundw
     case rel=>exact⟨i+1,hlt,by go_num,Lib.hid (by rw[HKT.out];exact HU.out)⟩
     case measure=>simp[intOf];omega
    |false=>
    have d2: ¬t.toList=[101,120,112]:=fun h=>by have:=d1.1 h;cases this
    clear d1
    cases E2 with
    |true=>
     go_wp2_with fail
     go_roundw
     case rel=>exact⟨i+1,hlt,by go_num,Lib.hid (by rw[HKT.out];exact HU.out)⟩
     case measure=>simp[intOf];omega
    |false=>
    obtain⟨P,hP⟩: ∃P,P=zdZ (zok [nExp,nSub] ((j.k.zip j.l).take i)):=⟨_,rfl⟩
    have hpl:=putsL_len _ (zok [nExp,nSub] ((j.k.zip j.l).take i)) rfl
    have hpl2:=keepM_len [nExp,nSub] ((j.k.zip j.l).take i)
    rw[←hP]at hpl hrep
    have HPN:Hid (zdZ (zok [nExp,nSub] ((j.k.zip j.l).take (i+1)))=zaw t x false P.1 P.2):=Lib.hid (by rw[HKT.out,if_neg (by decide),zgW,hP])
    have HPL:Hid (P.1.length=P.2.length∧P.1.length≤1000000):=Lib.hid ⟨hpl.1,by have:=List.length_take_le i (j.k.zip j.l);omega⟩
    have HREP:=Lib.hid hrep
    obtain⟨k0,k1,k2,k3,k4⟩:=zog hblk
    clear hpl hpl2 hP hrep hblk hbel hglt HKT HU
    go_wp2_with fail
    refine wp_region_held_drew (S:=fun X=>(X.cell? ⟨g7,0,none⟩=some (.int .i64 x0)∧X.cell? ⟨g7,1,none⟩=some (.int .i64 x1)∧X.cell? ⟨g7,2,none⟩=some (.string x2)∧X.cell? ⟨g7,3,none⟩=some (.slice (some ⟨gv,ov,none⟩) xp xc)∧X.cell? ⟨g7,4,none⟩=some (.slice (some ⟨gn,on,none⟩) xp xd)∧X.cell? ⟨gn,on+i,none⟩=some (.string t)∧X.cell? ⟨gv,ov+i*5,none⟩=some (.int .i64 y0)∧X.cell? ⟨gv,ov+i*5+1,none⟩=some (.int .i64 y1)∧X.cell? ⟨gv,ov+i*5+2,none⟩=some (.string y2)∧X.cell? ⟨gv,ov+i*5+3,none⟩=some (.slice yA yp yc)∧X.cell? ⟨gv,ov+i*5+4,none⟩=some (.slice yK yq yd))) (by kernel_rfl) (HSX.out _ HBEL.out.drew) (fun hHeld=> ?_)
    refine rgT 1 ?_
    try simp only[rgS]
    refine rgT 2 ?_
    try simp only[rgS]
    refine rgT 3 ?_
    try simp only[rgS]
    refine rgT 4 ?_
    try simp only[rgS]
    refine rgT 5 ?_
    try simp only[rgS]
    refine rgT 6 ?_
    try simp only[rgS]
    refine rgT 7 ?_
    try simp only[rgS]
    refine rgT 8 ?_
    try simp only[rgS]
    refine rgT 9 ?_
    try simp only[rgS]
    refine rgT 10 ?_
    try simp only[rgS]
    refine rgO 0 (fun K hK=> ?_)
    go_simp
    refine hK.out _ _ (HSX.out _ HBEL.out.drew) (fun hH1=> ?_)
    clear hK K hHeld k0 k1 k2 k3 k4
    try simp only[rgS]
    refine rgO 11 (fun K hK=> ?_)
    go_simp
    have hdr:Below wr.heap.size wr wr.drew:=(Below.refl _ wr).drew
    have hput:=zoy 5 0 ⟨#[]⟩ P.1 P.2 t x (.agg #[.int .i64 z0,.int .i64 z1,.string z2,.slice zA zp zc,.slice zK zq zd]) (.agg #[.int .i64 y0,.int .i64 y1,.string y2,.slice yA yp yc,.slice yK yq yd]) wr.drew (fun b=>b≠g5∧b≠W.heap.size∧b<wr.heap.size) (fun b h=>Nat.lt_of_lt_of_le h.2.2 hdr.size) (RepS.keeps (Keeps.below hdr (fun b h _=>h.2.2)) (fun b h _=>h) _ _ HREP.out) (RepS.keeps (Keeps.below hdr (fun b h _=>Nat.lt_of_lt_of_le h.2 HBEL.out.size)) (fun b h _=>⟨by have:=HGQ.out;have:=h.2;omega,by have:=h.1;omega,Nat.lt_of_lt_of_le h.2 HBEL.out.size⟩) _ _ HRX.out) HPL.out.1 HPL.out.2 HTS.out
    refine hput.mono ?_
    clear hput
    rintro e wB ⟨v',rfl,hrB,hbB⟩
    obtain⟨u0,u1,u2,uA,up,uc,uK,uq,ud,rfl⟩:=(RepS.toJ _ _ hrB).form
    have hrwB:Below wr.heap.size wr wB:=hdr.trans (hbB.mono hdr.size)
    have hqB:=HBEL.out.trans (hrwB.mono HBEL.out.size)
    have hblkB:=HBLK.out.below hrwB HGLT.out
    refine hK.out _ _ (HSX.out _ hqB) (fun hH2=> ?_)
    have hrB2:=RepS.keeps (T:=fun b=>b≠g5∧b≠W.heap.size∧b<wB.heap.size) (Keeps.refl _ wB) (fun b (h:(b≠g5∧b≠W.heap.size∧b<wr.heap.size)∨wr.drew.heap.size≤b) hb=>⟨h.elim (fun h=>h.1) (fun h=>by have:=HGLT.out;have:=hdr.size;omega),h.elim (fun h=>h.2.1) (fun h=>by have:=HBRQ.out.lt;have:=HBEL.out.size;have:=hdr.size;omega),hb⟩) _ _ hrB
    have HRB:=Lib.hid hrB2
    have HQB:=Lib.hid hqB
    have HBB:=Lib.hid hblkB
    clear hK K hH1 hrB hbB hrwB hqB hrB2 hdr
    try simp only[rgS]
    refine rgO 12 (fun K hK=> ?_)
    rw[if_pos (by kernel_rfl)]
    refine wp_store_row 27 (.tmp 15) (.tmp 91) rfl g5 0 [.int .i64 u0,.int .i64 u1,.string u2,.slice uA up uc,.slice uK uq ud] rfl rfl _ _ hblkB (by simp) zaa (by intro v hv;simp at hv;rcases hv with rfl|rfl|rfl|rfl|rfl<;>rfl) ?_
    intro wC hbC hgC
    rw[zaW _ _ (by simp)]at hbC
    have hqC:=HQB.out.grown hgC HQB.out.size (by intro b e;injection e with e;have:=HGQ.out;omega)
    refine hK.out _ _ (HSX.out _ hqC) (fun hH3=> ?_)
    have HF:Hid (UInv W.heap.size wq wC g5 (zdZ (zok [nExp,nSub] ((j.k.zip j.l).take (i+1))))):=Lib.hid (by
     rw[HPN.out]
     exact⟨hqC,hbC.lt,_,_,_,_,_,_,_,_,_,hbC,RepS.keeps (Keeps.grown hgC (fun b h e=>by injection e with e;exact h.1 e)) (fun b h hb=>⟨h.1,h.2.1,Nat.lt_of_lt_of_le hb hgC.size⟩) _ _ HRB.out⟩)
    clear hK K hH2 hbC hgC hqC hblkB
    try simp only[rgS]
    refine wpAnyH_done (by kernel_rfl) ?_ _
    go_wp2_with fail
    go_roundw
    case rel=>exact⟨i+1,hlt,by go_num,HF.out⟩
    case measure=>simp[intOf];omega
   ·obtain rfl:i=xp:=by omega
    have hkn: ¬(i:Int)<(i:Int):=by omega
    have HRE:Hid (RepS wr (fun b=>b≠g5∧b≠W.heap.size∧b<wr.heap.size) (zoi [nExp,nSub] j) (.agg #[.int .i64 z0,.int .i64 z1,.string z2,.slice zA zp zc,.slice zK zq zd])):=Lib.hid (by
     have:=hrep
     rw[List.take_of_length_le (by rw[HL.out.2];omega)]at this
     exact this)
    obtain⟨f0,f1,f2,f3,f4⟩:=zog (HCQ.out.below hbel HQL.out)
    have HBEL:=Lib.hid hbel
    have HBLK:=Lib.hid hblk
    have hbr8:=HBRQ.out.below hbel HBRQ.out.lt
    have HBR8:=Lib.hid hbr8
    have HB8:=Lib.hid (HBQ.out.trans (hbel.mono HBQ.out.size))
    have HSZ:=Lib.hid (show Hid (wq.heap.size≤g5)from HG5)
    obtain⟨k0,k1,k2,k3,k4⟩:=zog hblk
    have HSG:Hid (∀X,Below (g5+1) wr X→(X.cell? ⟨g5,0,none⟩=some (.int .i64 z0)∧X.cell? ⟨g5,1,none⟩=some (.int .i64 z1)∧X.cell? ⟨g5,2,none⟩=some (.string z2)∧X.cell? ⟨g5,3,none⟩=some (.slice zA zp zc)∧X.cell? ⟨g5,4,none⟩=some (.slice zK zq zd))):=Lib.hid fun X hX=>zog (hblk.below hX (Nat.lt_succ_self _))
    clear hblk hrep hbel hglt HU
    go_wp2_with fail
    refine wp_region_held_drew (S:=fun X=>(X.cell? ⟨g5,0,none⟩=some (.int .i64 z0)∧X.cell? ⟨g5,1,none⟩=some (.int .i64 z1)∧X.cell? ⟨g5,2,none⟩=some (.string z2)∧X.cell? ⟨g5,3,none⟩=some (.slice zA zp zc)∧X.cell? ⟨g5,4,none⟩=some (.slice zK zq zd))) (by kernel_rfl) (HSG.out _ ((Below.refl _ wr).drew.mono HBLK.out.lt)) (fun hHeld=> ?_)
    refine rgT 0 ?_
    try simp only[rgS]
    refine rgT 1 ?_
    try simp only[rgS]
    refine rgT 2 ?_
    try simp only[rgS]
    refine rgO 3 (fun K hK=> ?_)
    rw[if_pos (by kernel_rfl)]
    have hdr:Below wr.heap.size wr wr.drew:=(Below.refl _ wr).drew
    refine wp_store_row 27 (.tmp 5) (.tmp 93) rfl W.heap.size 0 [.int .i64 z0,.int .i64 z1,.string z2,.slice zA zp zc,.slice zK zq zd] rfl rfl _ _ (hbr8.below hdr HBR8.out.lt) (by simp[zeros5]) zaa (by intro v hv;simp at hv;rcases hv with rfl|rfl|rfl|rfl|rfl<;>rfl) ?_
    intro wC hbC hgC
    rw[zaW _ _ (by simp[zeros5])]at hbC
    have hne:W.heap.size≠g5:=by have:=HSZ.out.out;have:=HBRQ.out.lt;omega
    obtain⟨c0,c1,c2,c3,c4⟩:=zog ((HBLK.out.below hdr HBLK.out.lt).grown hgC (by intro e;injection e with e;exact hne e.symm))
    refine hK.out _ _ ⟨c0,c1,c2,c3,c4⟩ (fun hH1=> ?_)
    have HB9:=Lib.hid hbC
    have HBC:=Lib.hid ((HB8.out.trans (hdr.mono HB8.out.size)).grown hgC (HB8.out.trans (hdr.mono HB8.out.size)).size (by intro b e;injection e with e;omega))
    have HGC:=Lib.hid hgC
    have HDR:=Lib.hid hdr
    clear hK K hHeld hgC hbC hdr c0 c1 c2 c3 c4 k0 k1 k2 k3 k4 f0 f1 f2 f3 f4
    try simp only[rgS]
    refine rgT 4 ?_
    try simp only[rgS]
    refine wpAnyH_done (by kernel_rfl) ?_ _
    go_wp2_with fail
    (try simp only[Exit.inBlock,Exit.then])
    have r0:=HB9.out.cell 0
    have r1:=HB9.out.cell 1
    have r2:=HB9.out.cell 2
    have r3:=HB9.out.cell 3
    have r4:=HB9.out.cell 4
    refine bodyPost_ret (v:= .tuple #[.string sub,.agg #[.int .i64 z0,.int .i64 z1,.string z2,.slice zA zp zc,.slice zK zq zd],.bool true]) ?_ rfl (.inl ⟨sub,zoi [nExp,nSub] j,_,_,_,_,_,_,_,_,_,HRS.out,rfl,?_,HBC.out⟩)
    ·rw[zoh rfl];go_simp
    ·exact RepS.toJ _ _ (RepS.keeps (T:=fun _=>True) (Keeps.grown HGC.out (fun b h e=>by injection e with e;exact h.2.1 e)) (fun _ _ _=>trivial) _ _ (RepS.keeps (Keeps.below HDR.out (fun b h _=>h.2.2)) (fun _ h _=>h) _ _ HRE.out))
theorem isP_any (d:TypeId) (x:Value) (w:World) (h:PErr (.iface d x) w) (ht:ErrTab w):Calls Tryz.prog 26 #[.iface d x] w fun e w'=>e= .returned (.bool true)∧Below w.heap.size w w':=by
 have HN:=Lib.hid (numP h ht)
 clear h ht
 go_enter Tryz.func26,Tryz.ntmps26
 go_wp2_with(go_at_call 35;(with_reducible refine HN.out.mono ?_);rintro e w' ⟨rfl,hb⟩;have HB:=Lib.hid hb;clear hb)
 go_ret
 exact⟨rfl,HB.out⟩
theorem zpX (s:ByteArray) (now:Int) (W:World) (hA:Ask9 W):
  Calls Tryz.prog 6 #[.string s,.int .i64 now] W fun e w'=>e= .returned (.bool true)∧Below W.heap.size W w':=by
 have HAL:=Lib.hid (zmi W hA)
 have HA:=Lib.hid hA
 clear hA
 by_cases h5:s.size≤5000
 case neg=>
  have hI:(5000:Int)<(s.size:Int):=by omega
  clear h5
  go_enter Tryz.func6,Tryz.ntmps6
  go_wp2_with fail
  refine HAL.out.mono ?_
  rintro e w1 ⟨rfl,hb⟩
  have HB1:=Lib.hid hb
  clear hb
  go_wp2
  go_ret
  exact⟨rfl,HB1.out⟩
 case pos=>
 have hI: ¬(5000:Int)<(s.size:Int):=by omega
 have HRD:=Lib.hid (fun(X:World) (h:Ask9 X)=>pushed_any s now X h h5)
 have HRR:=Lib.hid (fun(X:World)=>zpQ s now X h5)
 obtain⟨R,hR⟩: ∃R,R=zov (zar (strL s)) now:=⟨_,rfl⟩
 rw[←hR]at HRD HRR
 clear hR h5
 go_enter Tryz.func6,Tryz.ntmps6
 go_wp2_with fail
 refine HAL.out.mono ?_
 rintro e w1 ⟨rfl,hb⟩
 have HB1:=Lib.hid hb
 clear hb
 go_wp2_with fail
 refine(HRD.out _ (HA.out.below HB1.out)).mono ?_
 rintro e w2 (⟨su,j,x0,x1,x2,xA,xp,xc,xK,xq,xd,rfl,rfl,hrj,hb⟩|⟨rfl,d,x,rfl,hpe,hb⟩)
 ·have HB2:=Lib.hid (HB1.out.trans (hb.mono HB1.out.size))
  have HRJ:=Lib.hid hrj
  clear hb hrj
  go_wp2_with(first
   |(refine zaK rfl (some 6) rfl _ rfl _ zcs ?_;intro g1 wa1 hg1 hb1 hgr1;have HA1:=Lib.hid hgr1;have HG1:=Lib.hid hg1;clear hgr1 hg1;try go_frame)
   |(refine zaQ rfl none rfl _ (.tmp 6) (.tmp 21) rfl g1 0 [.int .i64 x0,.int .i64 x1,.string x2,.slice xA xp xc,.slice xK xq xd] rfl rfl _ _ hb1 (by simp[zeros5]) zaa (by intro v hv;simp at hv;rcases hv with rfl|rfl|rfl|rfl|rfl<;>rfl) ?_;intro ws1 hc1 hgs1;rw[zaW _ _ (by simp[zeros5])]at hc1;have HM1:=Lib.hid (zao (Below.refl _ _) HA1.out HG1.out hgs1);have HC1:=Lib.hid hc1;clear hgs1 hb1 hc1;try go_frame)
   |(go_at_call 32;fail))
  have HB3:=Lib.hid (HB2.out.trans (HM1.out.mono HB2.out.size))
  refine(HRR.out _).mono ?_
  rintro e w3 (⟨su',j',y0,y1,y2,yA,yp,yc,yK,yq,yd,ht,rfl,hrj2,hb⟩|⟨ht, -, -⟩)
  case inr=>cases ht
  injection ht with ht
  injection ht with ht1 ht2
  subst ht1
  subst ht2
  have HB4:=Lib.hid (HB3.out.trans (hb.mono HB3.out.size))
  have HM13:=Lib.hid (HM1.out.trans (hb.mono HM1.out.size))
  have HC13:=Lib.hid (HC1.out.below hb HC1.out.lt)
  have HR2:=Lib.hid hrj2
  clear hb hrj2
  go_wp2_with(first
   |(refine zaK rfl (some 9) rfl _ rfl _ zcs ?_;intro g9 wa9 hg9 hb9 hgr9;have HA9:=Lib.hid hgr9;have HG9:=Lib.hid hg9;clear hgr9 hg9;try go_frame)
   |(refine zaQ rfl none rfl _ (.tmp 9) (.tmp 28) rfl g9 0 [.int .i64 y0,.int .i64 y1,.string y2,.slice yA yp yc,.slice yK yq yd] rfl rfl _ _ hb9 (by simp[zeros5]) zaa (by intro v hv;simp at hv;rcases hv with rfl|rfl|rfl|rfl|rfl<;>rfl) ?_;intro ws9 hc9 hgs9;rw[zaW _ _ (by simp[zeros5])]at hc9;have HM9:=Lib.hid (zao (Below.refl _ _) HA9.out HG9.out hgs9);have HC9:=Lib.hid hc9;obtain⟨p0,p1,p2,p3,p4⟩:=zog (HC13.out.below HM9.out HC13.out.lt);obtain⟨q0,q1,q2,q3,q4⟩:=zog HC9.out;clear hgs9 hb9 hc9;try go_frame)
   |(go_at_call 15;fail))
  have hs:=zot j j _ _ _ (RepJ.below (HM13.out.trans (HM9.out.mono HM13.out.size)) _ _ HRJ.out) (RepJ.below HM9.out _ _ HR2.out)
  rw[zoo]at hs
  refine hs.mono ?_
  rintro e w6 ⟨rfl,hb⟩
  have HB5:=HB4.out.trans (HM9.out.mono HB4.out.size)
  have HB6:=Lib.hid (HB5.trans (hb.mono HB5.size))
  clear hb HB5
  go_wp2
  go_ret
  exact⟨rfl,HB6.out⟩
 ·have HB2:=Lib.hid (HB1.out.trans (hb.mono HB1.out.size))
  have HPE:=Lib.hid hpe
  clear hb hpe
  go_wp2_with(first
   |(refine zaK rfl (some 6) rfl _ rfl _ zcs ?_;intro g1 wa1 hg1 hb1 hgr1;have HA1:=Lib.hid hgr1;have HG1:=Lib.hid hg1;clear hgr1 hg1;try go_frame)
   |(refine zaQ rfl none rfl _ (.tmp 6) (.tmp 21) rfl g1 0 [.int .i64 0,.int .i64 0,.string ⟨#[]⟩,.slice none 0 0,.slice none 0 0] rfl rfl _ _ hb1 (by simp[zeros5]) zaa (by intro v hv;simp at hv;rcases hv with rfl|rfl|rfl<;>rfl) ?_;intro ws1 hc1 hgs1;rw[zaW _ _ (by simp[zeros5])]at hc1;have HM1:=Lib.hid (zao (Below.refl _ _) HA1.out HG1.out hgs1);have HC1:=Lib.hid hc1;clear hgs1 hb1 hc1;try go_frame)
   |(go_at_call 32;fail))
  have HB3:=Lib.hid (HB2.out.trans (HM1.out.mono HB2.out.size))
  refine(HRR.out _).mono ?_
  rintro e w3 (⟨su',j',y0,y1,y2,yA,yp,yc,yK,yq,yd,ht, -⟩|⟨-,rfl,hb⟩)
  case inl=>cases ht
  have HB4:=Lib.hid (HB3.out.trans (hb.mono HB3.out.size))
  have HM13:=Lib.hid (HM1.out.trans (hb.mono HM1.out.size))
  have HC13:=Lib.hid (HC1.out.below hb HC1.out.lt)
  clear hb
  go_wp2_with(first
   |(refine zaK rfl (some 9) rfl _ rfl _ zcs ?_;intro g9 wa9 hg9 hb9 hgr9;have HA9:=Lib.hid hgr9;have HG9:=Lib.hid hg9;clear hgr9 hg9;try go_frame)
   |(refine zaQ rfl none rfl _ (.tmp 9) (.tmp 28) rfl g9 0 [.int .i64 0,.int .i64 0,.string ⟨#[]⟩,.slice none 0 0,.slice none 0 0] rfl rfl _ _ hb9 (by simp[zeros5]) zaa (by intro v hv;simp at hv;rcases hv with rfl|rfl|rfl<;>rfl) ?_;intro ws9 hc9 hgs9;rw[zaW _ _ (by simp[zeros5])]at hc9;have HM9:=Lib.hid (zao (Below.refl _ _) HA9.out HG9.out hgs9);have HC9:=Lib.hid hc9;clear hgs9 hb9 hc9;try go_frame)
   |(go_at_call 26;fail))
  have HB5:=Lib.hid (HB4.out.trans (HM9.out.mono HB4.out.size))
  refine(isP_any d x _ ((HPE.out.below HM13.out).below HM9.out) (HA.out.below HB5.out).ask.tab).mono ?_
  rintro e w6 ⟨rfl,hb⟩
  have HB6:=Lib.hid (HB5.out.trans (hb.mono HB5.out.size))
  have hq:=(HC13.out.below HM9.out HC13.out.lt).below hb (HC13.out.below HM9.out HC13.out.lt).lt
  have hr:=HC9.out.below hb HC9.out.lt
  obtain⟨p0,p1,p2,p3,p4⟩:=zog hq
  obtain⟨q0,q1,q2,q3,q4⟩:=zog hr
  clear hb hq hr
  have HSM:=Lib.hid (zot zeroJ zeroJ _ _ w6 (RepJ.zero w6) (RepJ.zero w6))
  rw[zoo]at HSM
  go_wp2_with fail
  refine HSM.out.mono ?_
  rintro e w7 ⟨rfl,hb⟩
  have HB7:=Lib.hid (HB6.out.trans (hb.mono HB6.out.size))
  clear hb
  go_wp2
  go_ret
  exact⟨rfl,HB7.out⟩
end Go.Proofs.YtjfgmgkhinehaaaGreatDoor
