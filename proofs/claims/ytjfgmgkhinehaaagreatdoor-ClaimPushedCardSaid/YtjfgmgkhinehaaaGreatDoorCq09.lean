
import Derived.Test.YtjfgmgkhinehaaaGreatDoorCq02
import Derived.Test.YtjfgmgkhinehaaaGreatDoorCq08
set_option maxRecDepth 100000
set_option maxHeartbeats 16000000
set_option linter.all false
namespace Go.Proofs.YtjfgmgkhinehaaaGreatDoor
open Go Go.RowKit
def GW (w:World) (rb:Nat):Prop:=Marks w∧ErrTab w∧rb≠2∧rb≠0
theorem GW.grown {w w':World} {rb:Nat} (h:GW w rb) (hg:w.grownBy w' (some rb)):GW w' rb:=by
 obtain⟨h1,h2,h3,h4⟩:=h
 refine⟨Blk.grown h1 hg (by intro e;injection e with e;exact h3 e.symm),?_,h3,h4⟩
 have hlt:=zab h2
 have:=hg.block 0 hlt (by intro e;injection e with e;exact h4 e.symm)
 unfold ErrTab World.cell? at h2⊢
 simp only[this]
 exact h2
theorem zha (s:ByteArray) (k:Nat):strL (s.extract k s.size)=(strL s).drop k:=by
 rw[zau,List.take_of_length_le (by rw[zaX];exact Nat.le_refl _)]
theorem pre_list (l:List UInt8):Lib.hasPrefix l [92,117]=decide (atL (l.map fun b=>(b.toNat:Int)) 0=92∧atL (l.map fun b=>(b.toNat:Int)) 1=117):=by
 have key: ∀(a:UInt8) (n:Nat),n<256→((n.toUInt8==a)=decide ((a.toNat:Int)=n)):=fun a n hn=>by
  rw[Bool.eq_iff_iff,beq_iff_eq,decide_eq_true_eq]
  constructor
  ·intro h;rw[←h];simp;omega
  ·intro h;apply UInt8.toNat_inj.1;simp;omega
 match l with
 |[]=>rfl
 |[a]=>
  show((92:UInt8)==a&&List.isPrefixOf [117] [])=_
  rw[show List.isPrefixOf [(117:UInt8)] []=false from rfl,Bool.and_false]
  symm;rw[decide_eq_false_iff_not];rintro⟨_,h⟩;exact absurd h (show ¬(-1:Int)=117 by decide)
 |a::b::r=>
  show((92:UInt8)==a&&((117:UInt8)==b&&List.isPrefixOf [] r))=_
  rw[show List.isPrefixOf ([]:List UInt8) r=true by cases r<;>rfl,Bool.and_true]
  have h1:=key a 92 (by decide);have h2:=key b 117 (by decide)
  rw[show((92:UInt8)==a)=decide ((a.toNat:Int)=92)from h1,show((117:UInt8)==b)=decide ((b.toNat:Int)=117)from h2]
  rw[←Bool.decide_and];rfl
theorem pre_str (t:ByteArray):Lib.hasPrefix t.data.toList [92,117]=decide (atL (strL t) 0=92∧atL (strL t) 1=117):=pre_list _
theorem trim_str (t:ByteArray) (h:Lib.hasPrefix t.data.toList [92,117]=true):strL ⟨(Lib.trimPrefix t.data.toList [92,117]).toArray⟩=(strL t).drop 2:=by
 unfold Lib.trimPrefix
 rw[if_pos h]
 simp[strL]
theorem trim_size (t:ByteArray):(⟨(Lib.trimPrefix t.data.toList [92,117]).toArray⟩:ByteArray).size≤t.size:=by
 unfold Lib.trimPrefix
 split
 ·show(t.data.toList.drop 2).toArray.size≤_
  simp
 ·exact Nat.le_refl _
theorem zid (s:ByteArray) (w:World) (hs:s.size≤1000000):
  Calls Tryz.prog 207 #[.string s] w fun e w'=>e= .returned (.tuple #[.int .i64 (ldL (strL s) 4 0 0).1,.int .i64 ((ldL (strL s) 4 0 0).2:Int)])∧w'=w:=(leadCode_any s w hs).mono fun _ _ (h:_∧_)=>(⟨h.1,h.2.symm⟩:_∧_)
theorem half_there {l:List Int} {i:Nat} (h: ¬(zbf l i<56320∨57343<zbf l i)):(atL l (i+6)=92∧atL l (i+7)=117)∧(ldL l 4 (i+8) 0).2=4∧zbf l i=(ldL l 4 (i+8) 0).1:=by
 rw[halfL_ld]at h⊢
 by_cases h1:atL l (i+6)=92∧atL l (i+7)=117
 ·rw[if_pos h1]at h⊢
  by_cases h2:(ldL l 4 (i+8) 0).2=4
  ·rw[if_pos h2];exact⟨h1,h2,rfl⟩
  ·rw[if_neg h2]at h;omega
 ·rw[if_neg h1]at h;omega
theorem half_none {l:List Int} {i:Nat} (h:zbf l i<56320∨57343<zbf l i) (h1:atL l (i+6)=92∧atL l (i+7)=117):(ldL l 4 (i+8) 0).1<56320∨57344≤(ldL l 4 (i+8) 0).1:=by
 have hb:=ld4_bd l (i+8)
 rw[halfL_ld,if_pos h1]at h
 by_cases h2:(ldL l 4 (i+8) 0).2=4
 ·rw[if_pos h2]at h;omega
 ·have:=hb.2.2.1 h2;omega
theorem lowHalf_yes (rb:Nat) (s:ByteArray) (i:Nat) (n:Int) (w:World) (h:Rdr w rb s (i+6:Nat) n) (hi:i+6≤s.size) (hs:s.size≤1000000) (hh: ¬(zbf (strL s) i<56320∨57343<zbf (strL s) i)):
  Calls Tryz.prog 208 #[.pointer (some ⟨rb,0,none⟩),.int .i64 (i:Int)] w fun e w'=>e= .returned (.int .i64 (zbf (strL s) i-56320))∧zch w w' rb s (i+12:Nat) n:=by
 obtain⟨h92,h4,he⟩:=half_there hh
 have hb:=ld4_bd (strL s) (i+8)
 have HR:=Lib.hid h
 obtain⟨⟨c0,c1,c2⟩,f0,f1,f2⟩:=h.cells
 obtain⟨t,ht⟩: ∃t,t=s.extract (i+6) s.size:=⟨_,rfl⟩
 have htl:strL t=(strL s).drop (i+6):=by rw[ht,zha]
 have hp:Lib.hasPrefix t.data.toList [92,117]=true:=by
  rw[pre_str,htl,decide_eq_true_eq,ziX,ziX];exact h92
 have htr:=trim_str t hp
 have hsz:=trim_size t
 have HCP:=Lib.hid (fun W:World=>Tryz.strings_CutPrefix t ⟨#[92,117]⟩ W)
 rw[show(⟨#[92,117]⟩:ByteArray).data.toList=[92,117]from rfl,hp]at HCP
 obtain⟨T,hT⟩: ∃T,T=(⟨(Lib.trimPrefix t.data.toList [92,117]).toArray⟩:ByteArray):=⟨_,rfl⟩
 rw[←hT]at HCP htr hsz
 have hts:t.size≤s.size:=by rw[ht];simp[ByteArray.size_extract]
 have HLC:=Lib.hid (fun W:World=>zid T W (by omega))
 have e1:ldL (strL T) 4 0 0=ldL (strL s) 4 (i+8) 0:=by rw[htr,htl,List.drop_drop,zja]
 rw[e1]at HLC
 rw[he]
 rw[he]at hh
 obtain⟨x,hx⟩: ∃x,x=(ldL (strL s) 4 (i+8) 0).1:=⟨_,rfl⟩
 obtain⟨y,hy⟩: ∃y,y=(((ldL (strL s) 4 (i+8) 0).2:Nat):Int):=⟨_,rfl⟩
 rw[←hx,←hy]at HLC
 rw[←hx]at hh hb⊢
 have a0:decide (x<56320)=false:=decide_eq_false (by omega)
 have a1:decide (57344≤x)=false:=decide_eq_false (by omega)
 have a2:(56320:Int)≤x:=by omega
 have a3:x≤57343:=by omega
 have b0:(0:Int)≤((i+6:Nat):Int):=by omega
 have b1:((i+6:Nat):Int)≤(s.size:Int):=by omega
 have b2:((i+6:Nat):Int).toNat=i+6:=by omega
 obtain⟨I,hI⟩: ∃I,I=i+6:=⟨_,rfl⟩
 rw[←hI]at c1 b0 b1 b2 HR ht
 have HT:=Lib.hid ht
 have HI:=Lib.hid hI
 have hI2:I≤1000000:=by omega
 clear h hx hy e1 he hh hb htl htr hT hp h92 h4 hts hsz ht hI hi
 go_enter Tryz.func208,Tryz.ntmps208
 go_wp2
 go_quiet ((go_at_call 211;rw[←HT.out];exact Calls.quiet_of_same (HCP.out _)))
 go_wp2_with(go_at_call 207;(with_reducible refine(HLC.out _).mono ?_);rintro e w' ⟨rfl,rfl⟩)
 go_ret
 refine⟨rfl,zaj w _ rb 1 _,?_⟩
 have:=Rdr.goes (HR.out.drewN nq) ((i+12:Nat):Int)
 rw[show((i+12:Nat):Int)=(I:Int)+6 by have:=HI.out;omega]at this⊢
 exact this
theorem lowHalf_no (rb:Nat) (s:ByteArray) (i:Nat) (n:Int) (w:World) (h:Rdr w rb s (i+6:Nat) n) (hi:i+6≤s.size) (hs:s.size≤1000000) (hh:zbf (strL s) i<56320∨57343<zbf (strL s) i):
  Calls Tryz.prog 208 #[.pointer (some ⟨rb,0,none⟩),.int .i64 (i:Int)] w (zii w rb i 50):=by
 have HR:=Lib.hid h
 obtain⟨⟨c0,c1,c2⟩,f0,f1,f2⟩:=h.cells
 obtain⟨t,ht⟩: ∃t,t=s.extract (i+6) s.size:=⟨_,rfl⟩
 have htl:strL t=(strL s).drop (i+6):=by rw[ht,zha]
 have hp:Lib.hasPrefix t.data.toList [92,117]=decide (atL (strL s) (i+6)=92∧atL (strL s) (i+7)=117):=by
  rw[pre_str,htl,ziX,ziX]
 have htr:=fun hpt=>trim_str t hpt
 have hsz:=trim_size t
 have HCP:=Lib.hid (fun W:World=>Tryz.strings_CutPrefix t ⟨#[92,117]⟩ W)
 rw[show(⟨#[92,117]⟩:ByteArray).data.toList=[92,117]from rfl]at HCP
 obtain⟨T,hT⟩: ∃T,T=(⟨(Lib.trimPrefix t.data.toList [92,117]).toArray⟩:ByteArray):=⟨_,rfl⟩
 obtain⟨P,hP⟩: ∃P,P=Lib.hasPrefix t.data.toList [92,117]:=⟨_,rfl⟩
 rw[←hT,←hP]at HCP
 rw[←hT]at htr hsz
 rw[←hP]at hp htr
 have hts:t.size≤s.size:=by rw[ht];simp[ByteArray.size_extract]
 have HLC:=Lib.hid (fun W:World=>zid T W (by omega))
 have b0:(0:Int)≤((i+6:Nat):Int):=by omega
 have b1:((i+6:Nat):Int)≤(s.size:Int):=by omega
 have b2:((i+6:Nat):Int).toNat=i+6:=by omega
 have hbad:P=true→(ldL (strL T) 4 0 0).1<56320∨57344≤(ldL (strL T) 4 0 0).1:=fun e=>by
  rw[htr e,htl,List.drop_drop,zja]
  rw[e]at hp
  exact half_none hh (of_decide_eq_true hp.symm)
 obtain⟨x,hx⟩: ∃x,x=(ldL (strL T) 4 0 0).1:=⟨_,rfl⟩
 obtain⟨y,hy⟩: ∃y,y=(((ldL (strL T) 4 0 0).2:Nat):Int):=⟨_,rfl⟩
 rw[←hx,←hy]at HLC
 rw[←hx]at hbad
 obtain⟨I,hI⟩: ∃I,I=i+6:=⟨_,rfl⟩
 rw[←hI]at c1 b0 b1 b2 HR ht
 have HT:=Lib.hid ht
 have hI2:I≤1000000:=by omega
 have hnot: ∀(x:Bool) (w:World),(Op.unary .not (.bool x)).run Tryz.prog w= .ok (.bool (!x)) w:=fun _ _=>rfl
 clear h hx hy hh htl htr hT hp hts hsz ht hI hi hP
 cases P with
 |false=>
  clear hbad
  go_enter Tryz.func208,Tryz.ntmps208
  go_wp2
  go_quiet ((go_at_call 211;rw[←HT.out];exact Calls.quiet_of_same (HCP.out _)))
  go_wp2_with(first|(go_at_call 207;(with_reducible refine(HLC.out _).mono ?_);rintro e w' ⟨rfl,rfl⟩)|(go_at_call 113;(with_reducible refine(zbb _ _ _).mono ?_);rintro e w' ⟨rfl,rfl⟩))
  exact⟨rfl,rfl,zba _ _⟩
 |true=>
  rcases hbad rfl with hb|hb
  ·have a0:decide (x<56320)=true:=decide_eq_true hb
   clear hbad
   go_enter Tryz.func208,Tryz.ntmps208
   go_wp2
   go_quiet ((go_at_call 211;rw[←HT.out];exact Calls.quiet_of_same (HCP.out _)))
   go_wp2_with(first|(go_at_call 207;(with_reducible refine(HLC.out _).mono ?_);rintro e w' ⟨rfl,rfl⟩)|(go_at_call 113;(with_reducible refine(zbb _ _ _).mono ?_);rintro e w' ⟨rfl,rfl⟩))
   exact⟨rfl,rfl,zba _ _⟩
  ·have a0:decide (x<56320)=false:=decide_eq_false (by omega)
   have a1:decide (57344≤x)=true:=decide_eq_true hb
   clear hbad
   go_enter Tryz.func208,Tryz.ntmps208
   go_wp2
   go_quiet ((go_at_call 211;rw[←HT.out];exact Calls.quiet_of_same (HCP.out _)))
   go_wp2_with(first|(go_at_call 207;(with_reducible refine(HLC.out _).mono ?_);rintro e w' ⟨rfl,rfl⟩)|(go_at_call 113;(with_reducible refine(zbb _ _ _).mono ?_);rintro e w' ⟨rfl,rfl⟩))
   exact⟨rfl,rfl,zba _ _⟩
def goI {α:Type} (l:List Int) (c:Int) (step:Nat→Int→α→(Nat×Int)⊕(Nat×Int×α)):Nat→Nat→Int→α→(Nat×Int)⊕(Nat×Int×α)
 |0,i,_,_=> .inl (i,50)
 |f+1,i,left,st=>match step i left st with
  | .inl e=> .inl e
  | .inr (j,left',st')=>if atL l j=44 then goI l c step f (j+1) left' st' else if atL l j=c then .inr (j+1,left',st')else .inl (j,50)
structure ItemAsk {α:Type} (s:ByteArray) (rb g:Nat) (caps:Array Value) (step:Nat→Int→α→(Nat×Int)⊕(Nat×Int×α)) (Inv:World→Nat→Int→α→Prop) (R:World→Prop):Prop where
 rdr: ∀w i left st,Inv w i left st→Rdr w rb s i (256-left)
 left: ∀w i left st,Inv w i left st→0≤left∧left≤256∧i≤s.size
 moved: ∀w w2 i k left st,Inv w i left st→k≤s.size→w.grownBy w2 (some rb)→Rdr w2 rb s (k:Nat) (256-left)→Inv w2 k left st
 gone: ∀w w2 i left st,Inv w i left st→w.grownBy w2 (some rb)→R w2
 more: ∀i left st j left' st',i≤s.size→0≤left→left≤256→step i left st= .inr (j,left',st')→i<j∧j≤s.size
 bad: ∀w i left st p er,Inv w i left st→step i left st= .inl (p,er)→Calls Tryz.prog g caps w (fun e w'=>e= .panicked (flt (p:Nat) er)∧R w')
 ok: ∀w i left st j left' st',Inv w i left st→step i left st= .inr (j,left',st')→Calls Tryz.prog g caps w (fun e w'=>e= .returned (.tuple #[])∧ ∃q,q≤s.size∧zaY (strL s) q=j∧Inv w' q left' st')
def ItemsTell {α:Type} (Inv:World→Nat→Int→α→Prop) (R:World→Prop) (r:(Nat×Int)⊕(Nat×Int×α)) (e:Ending) (w':World):Prop:=
 match r with
 | .inl (p,er)=>e= .panicked (flt (p:Nat) er)∧R w'
 | .inr (j,left,st)=>e= .returned (.tuple #[])∧Inv w' j left st
theorem zma (rb:Nat) (s:ByteArray) (i n dep c:Int) (f:Value) (w:World) (h:Rdr w rb s i n) (hd:8<dep) (hd2:dep≤9):
  Calls Tryz.prog 168 #[.pointer (some ⟨rb,0,none⟩),.int .i64 dep,.int .u8 c,f] w (zii w rb i 51):=by
 obtain⟨⟨c0,c1,c2⟩,f0,f1,f2⟩:=h.cells
 clear h
 go_enter Tryz.func168,Tryz.ntmps168
 go_wp2_with(go_at_call 113;(with_reducible refine(zbb _ _ _).mono ?_);rintro e w' ⟨rfl,rfl⟩)
 exact⟨rfl,rfl,zae _ _⟩
theorem items_any {α:Type} (s:ByteArray) (rb g:Nat) (caps:Array Value) (step:Nat→Int→α→(Nat×Int)⊕(Nat×Int×α)) (Inv:World→Nat→Int→α→Prop) (R:World→Prop) (ha:ItemAsk s rb g caps step Inv R)
  (eg: ∀args w,(callFunc g args).run Tryz.prog w= .ok (.enter g args) w) (dep c:Int) (hd:0≤dep∧dep≤8) (hc0:0<c) (hc:c≠44) (i:Nat) (left:Int) (st:α) (w:World) (h:Inv w i left st) (hi:i<s.size) (hs:s.size≤100000):
  Calls Tryz.prog 168 #[.pointer (some ⟨rb,0,none⟩),.int .i64 dep,.int .u8 c,.func (.func g) #[] caps] w
   (ItemsTell Inv R (if atL (strL s) (zaY (strL s) (i+1))=c then .inr (zaY (strL s) (i+1)+1,left,st)else goI (strL s) c step (s.size+1) (zaY (strL s) (i+1)) left st)):=by
 have HLEN:=Lib.hid (zaX s)
 have HA:=Lib.hid ha
 have HI:=Lib.hid h
 have hr:=ha.rdr _ _ _ _ h
 obtain⟨d0,d1⟩:=hd
 obtain⟨⟨c0,c1,c2⟩,f0,f1,f2⟩:=hr.cells
 have hr1:Rdr (w.setCell ⟨rb,1,none⟩ (.int .i64 ((i:Int)+1))) rb s (i+1:Nat) (256-left):=Rdr.goes hr _
 have HI1:=Lib.hid (ha.moved _ _ _ (i+1) _ _ h hi (zaV w rb 1 (.int .i64 ((i:Int)+1))) hr1)
 have HB:=Lib.hid (zbc rb s (i+1) _ _ hr1 hi (by omega))
 have hsk:=zcz _ (strL s) (i+1) (Nat.le_refl _) (by rw[zaX];exact hi)
 rw[zaX]at hsk
 obtain⟨k,hk⟩: ∃k,k=zaY (strL s) (i+1):=⟨_,rfl⟩
 rw[←hk]at HB hsk⊢
 have hk2:=hsk.2
 have HAH:=Lib.hid (fun(W:World) (hr:Rdr W rb s k (256-left))=>zbg rb s k _ W hr hk2 (by omega))
 clear ha h hr hr1 hk hsk
 by_cases hcl:atL (strL s) k=c
 ·rw[if_pos hcl]
  rw[(zfi hc0).2 hcl]at HAH
  have hcc:(c==c)=true:=beq_self_eq_true c
  have hkl:k<s.size:=by rw[←HLEN.out];exact zav (by omega)
  clear hcl
  go_enter Tryz.func168,Tryz.ntmps168
  go_wp2_with(first|(go_at_call 112;(with_reducible refine HB.out.mono ?_);rintro e w1 ⟨rfl,hg1,hr1⟩;have HI2:=Lib.hid (HA.out.moved _ _ _ k _ _ HI1.out hk2 hg1 hr1);have HR1:=Lib.hid hr1;obtain⟨⟨c0,c1,c2⟩,f0,f1,f2⟩:=Rdr.cells hr1;clear hg1 hr1)|(go_at_call 140;(with_reducible refine(HAH.out _ HR1.out).mono ?_);rintro e w' ⟨rfl,q,rfl⟩))
  go_end0
  exact⟨rfl,HA.out.moved _ _ _ (k+1) _ _ HI2.out hkl (zaj _ q rb 1 _) (Rdr.goes (HR1.out.drewN q) _)⟩
 ·rw[if_neg hcl]
  have hne:=zmj (l:=strL s) (i:=k) hc0 hcl
  have ncc:(ahL (strL s) k==c)=false:=by rw[beq_eq_false_iff_ne];exact hne
  obtain⟨x,hx⟩: ∃x,x=ahL (strL s) k:=⟨_,rfl⟩
  rw[←hx]at HAH ncc
  obtain⟨res,hres⟩: ∃r,r=goI (strL s) c step (s.size+1) k left st:=⟨_,rfl⟩
  rw[←hres]
  have HRES:=Lib.hid hres
  clear hcl hne hx hres
  go_enter Tryz.func168,Tryz.ntmps168
  go_wp2_with(first|(go_at_call 112;(with_reducible refine HB.out.mono ?_);rintro e w1 ⟨rfl,hg1,hr1⟩;have HI2:=Lib.hid (HA.out.moved _ _ _ k _ _ HI1.out hk2 hg1 hr1);have HR1:=Lib.hid hr1;clear hg1 hr1)|(go_at_call 140;(with_reducible refine(HAH.out _ HR1.out).mono ?_);rintro e w' ⟨rfl,q,rfl⟩;have HI3:=Lib.hid (HA.out.moved _ _ _ k _ _ HI2.out hk2 (zba q _) (HR1.out.drewN q))))
  go_loopw[8] (fun m wr=>(∃(j:Nat) (lf:Int) (t:α) (f:Nat),m= .bool true∧s.size<j+f∧Inv wr j lf t∧res=goI (strL s) c step f j lf t)∨(∃(j:Nat) (lf:Int) (t:α),m= .bool false∧Inv wr j lf t∧res= .inr (j,lf,t))) (fun m wr=>match m with| .bool true=>s.size+1-znk wr rb|_=>0)
  case atStart=>exact .inl ⟨k,left,st,s.size+1,rfl,by omega,HI3.out,HRES.out⟩
  case round=>
   clear HI1 HI2 HI3 HB HAH HR1 HI c0 c1 c2 f0 f1 f2 ncc
   rcases hrel with⟨j,lf,t,f,rfl,hf,hinv,hrun⟩|⟨j,lf,t,rfl,hinv,hrun⟩
   ·obtain⟨l0,l1,hjs⟩:=HA.out.left _ _ _ _ hinv
    obtain⟨f,rfl⟩: ∃f',f=f'+1:=⟨f-1,by omega⟩
    have HIV:=Lib.hid hinv
    have HPOS:=Lib.hid (zdt (HA.out.rdr _ _ _ _ hinv))
    rw[goI]at hrun
    obtain⟨T,hT⟩: ∃T,T=step j lf t:=⟨_,rfl⟩
    rw[←hT]at hrun
    have HT:=Lib.hid hT
    have HRN:=Lib.hid hrun
    clear hinv hT hrun
    rcases T with⟨p,er⟩|⟨j2,l2,t2⟩
    ·have HB:=Lib.hid (HA.out.bad wr j lf t p er HIV.out HT.out.symm)
     go_wp2_with fail
     refine HB.out.mono ?_
     rintro e w2 ⟨rfl,hR⟩
     have HR2:=Lib.hid hR
     clear hR
     go_wp2
     rw[show res= .inl (p,er)from HRN.out]
     exact⟨rfl,rfl,HR2.out⟩
    ·obtain⟨hm1,hm2⟩:=HA.out.more _ _ _ _ _ _ hjs l0 l1 HT.out.symm
     have HK:=Lib.hid (HA.out.ok wr j lf t j2 l2 t2 HIV.out HT.out.symm)
     have HRN2:Hid (res=if atL (strL s) j2=44 then goI (strL s) c step f (j2+1) l2 t2 else if atL (strL s) j2=c then .inr (j2+1,l2,t2)else .inl (j2,50)):=Lib.hid HRN.out
     go_wp2_with fail
     refine HK.out.mono ?_
     rintro e w2 ⟨rfl,q,hq,hsk,hinv⟩
     have HIV2:=Lib.hid hinv
     obtain⟨l20,l21,_⟩:=HA.out.left _ _ _ _ hinv
     have hgo:=goesOn_any rb s q (256-l2) c w2 (HA.out.rdr _ _ _ _ hinv) hq (by omega) hc0 hc
     rw[hsk]at hgo
     have HGO:=Lib.hid hgo
     clear hinv hsk hgo
     go_wp2_with fail
     refine HGO.out.mono ?_
     rintro e w3 (⟨h44,rfl,hg3,hr3⟩|⟨hcc,rfl,hg3,hr3⟩|⟨h44,hcc,rfl,hg3⟩)
     ·have hlt:j2<s.size:=by rw[←HLEN.out];exact zav (by omega)
      have HIV3:=Lib.hid (HA.out.moved _ _ _ (j2+1) _ _ HIV2.out hlt hg3 hr3)
      have HRN3:=Lib.hid (HRN2.out.trans (if_pos h44))
      clear h44 hg3 hr3
      go_wp2
      go_roundw
      case rel=>exact .inl ⟨j2+1,l2,t2,f,rfl,by omega,HIV3.out,HRN3.out⟩
      case measure=>show s.size+1-znk w3 rb<s.size+1-znk wr rb;rw[zdt (HA.out.rdr _ _ _ _ HIV3.out),HPOS.out];omega
     ·have hlt:j2<s.size:=by rw[←HLEN.out];exact zav (by rw[hcc];intro e;omega)
      have HIV3:=Lib.hid (HA.out.moved _ _ _ (j2+1) _ _ HIV2.out hlt hg3 hr3)
      have HRN3:=Lib.hid (HRN2.out.trans ((if_neg (fun h=>hc (hcc.symm.trans h))).trans (if_pos hcc)))
      clear hcc hg3 hr3
      go_wp2
      go_roundw
      case rel=>exact .inr ⟨j2+1,l2,t2,rfl,HIV3.out,HRN3.out⟩
      case measure=>show 0<s.size+1-znk wr rb;rw[HPOS.out];omega
     ·have HRN3:=Lib.hid (HRN2.out.trans ((if_neg h44).trans (if_neg hcc)))
      have HR3:=Lib.hid (HA.out.gone _ _ _ _ _ HIV2.out hg3)
      clear h44 hcc hg3
      go_wp2
      rw[HRN3.out]
      exact⟨rfl,rfl,HR3.out⟩
   ·have HRN:=Lib.hid hrun
    have HIV:=Lib.hid hinv
    clear hrun hinv
    go_wp2
    go_end0
    rw[HRN.out]
    exact⟨rfl,HIV.out⟩
def ValPost (w:World) (rb:Nat) (s:ByteArray) (r:VR) (e:Ending) (w':World):Prop:=
 (r.2.2.2=0∧ ∃v q,e= .returned v∧RepS w' (fun b=>w.heap.size≤b) r.1 v∧q≤s.size∧zaY (strL s) q=r.2.1∧zch w w' rb s (q:Nat) (256-r.2.2.1))∨(r.2.2.2≠0∧zii w rb (r.2.1:Nat) r.2.2.2 e w')
def zfy (s:ByteArray) (rb d:Nat):Prop:= ∀(i:Nat) (left:Int) (w:World),i≤s.size→0≤left→left≤256→Rdr w rb s i (256-left)→GW w rb→
 Calls Tryz.prog 111 #[.pointer (some ⟨rb,0,none⟩),.int .i64 (9-(d:Int))] w (ValPost w rb s (zag (strL s) d (zaY (strL s) i) left))
structure LInv (W wr:World) (rb:Nat) (s:ByteArray) (dep:Int) (vs:List J) (xs:List Value) (vL:Value) (i n:Int):Prop where
 c2:Blk wr W.heap.size 197 [.pointer (some ⟨rb,0,none⟩)]
 c3:Blk wr (W.heap.size+1) 3 [.int .i64 dep]
 c4:Blk wr (W.heap.size+2) 27 zeros5
 c5:Blk wr (W.heap.size+3) 27 [.int .i64 4,.int .i64 0,.string ⟨#[]⟩,vL,.slice none 0 0]
 own:wr.ownsRow (W.heap.size+4) 27 5 vL vs.length xs
 flat:FlatJ wr (fun b=>W.heap.size+4≤b∧vL.ownBlock≠some b) vs xs
 gr:W.grownBy wr (some rb)
 lt:rb<W.heap.size
 sz:W.heap.size+4≤wr.heap.size
 rdr:Rdr wr rb s i n
theorem LInv.moved {W wr w2:World} {rb:Nat} {s:ByteArray} {dep:Int} {vs:List J} {xs:List Value} {vL:Value} {i n j m:Int} (h:LInv W wr rb s dep vs xs vL i n) (hm:wr.grownBy w2 (some rb)) (hr:Rdr w2 rb s j m):LInv W w2 rb s dep vs xs vL j m:=by
 have lt:=h.lt
 have ne: ∀k,W.heap.size≤k→some k≠some rb:=fun k hk e=>by injection e with e;omega
 refine⟨h.c2.grown hm (ne _ (Nat.le_refl _)),h.c3.grown hm (ne _ (by omega)),h.c4.grown hm (ne _ (by omega)),h.c5.grown hm (ne _ (by omega)),h.own.kept hm ?_,?_,h.gr.trans hm,lt,Nat.le_trans h.sz hm.size,hr⟩
 ·cases hv:vL.ownBlock with
  |none=>exact .inl rfl
  |some g=>exact .inr (fun e=>by injection e with e;have:=(h.own.lt g hv).1;omega)
 ·exact h.flat.keeps ⟨hm.size,fun b hb hl=>hm.block b hl (ne b (by have:=hb.1;omega))⟩ (fun b hb _=>hb)
theorem znm {w5:World} {base g cap n:Nat} {e:TypeId} {xs:List Value} {z0 z1 z2 z3 z4 c0 c1 c2 c3 c4:Value} (hl:xs.length=n*5) (h:w5.ownsRow base e 5 (.slice (some ⟨g,0,none⟩) (n+1) cap) (n+1) (xs++[z0,z1,z2,z3,z4])):
  (((((w5.setCell ⟨g,n*5,none⟩ c0).setCell ⟨g,n*5+1,none⟩ c1).setCell ⟨g,n*5+2,none⟩ c2).setCell ⟨g,n*5+3,none⟩ c3).setCell ⟨g,n*5+4,none⟩ c4).ownsRow base e 5 (.slice (some ⟨g,0,none⟩) (n+1) cap) (n+1) (xs++[c0,c1,c2,c3,c4])∧
  w5.grownBy (((((w5.setCell ⟨g,n*5,none⟩ c0).setCell ⟨g,n*5+1,none⟩ c1).setCell ⟨g,n*5+2,none⟩ c2).setCell ⟨g,n*5+3,none⟩ c3).setCell ⟨g,n*5+4,none⟩ c4) (some g):=by
 have h1:=h.stored (n*5) c0
 have h2:=h1.1.stored (n*5+1) c1
 have h3:=h2.1.stored (n*5+2) c2
 have h4:=h3.1.stored (n*5+3) c3
 have h5:=h4.1.stored (n*5+4) c4
 have e:(((((xs++[z0,z1,z2,z3,z4]).set (n*5) c0).set (n*5+1) c1).set (n*5+2) c2).set (n*5+3) c3).set (n*5+4) c4=xs++[c0,c1,c2,c3,c4]:=by
  rw[←hl]
  simp[List.set_append]
 rw[e]at h5
 exact⟨h5.1,(((h1.2.trans h2.2).trans h3.2).trans h4.2).trans h5.2⟩
theorem LInv.add {W wr w4 w5:World} {rb:Nat} {s:ByteArray} {dep:Int} {vs:List J} {xs:List Value} {vL:Value} {i n j m:Int} {x:J} {z0 z1 z2 z3 z4 c0 c1 c2 c3 c4:Value} {g cap:Nat} (h:LInv W wr rb s dep vs xs vL i n) (h4:wr.grownBy w4 (some rb)) (hr:Rdr w4 rb s j m)
  (hx:RepS w4 (fun b=>wr.heap.size≤b) x (.agg #[c0,c1,c2,c3,c4])) (hgr:w4.grownBy w5 vL.ownBlock) (hown:w5.ownsRow (W.heap.size+4) 27 5 (.slice (some ⟨g,0,none⟩) (vs.length+1) cap) (vs.length+1) (xs++[z0,z1,z2,z3,z4])) (hat:vL.ownBlock=some g∨w4.heap.size≤g):
  LInv W ((((((w5.setCell ⟨g,vs.length*5,none⟩ c0).setCell ⟨g,vs.length*5+1,none⟩ c1).setCell ⟨g,vs.length*5+2,none⟩ c2).setCell ⟨g,vs.length*5+3,none⟩ c3).setCell ⟨g,vs.length*5+4,none⟩ c4).setCell ⟨W.heap.size+3,3,none⟩ (.slice (some ⟨g,0,none⟩) (vs.length+1) cap)) rb s dep (vs++[x]) (xs++[c0,c1,c2,c3,c4]) (.slice (some ⟨g,0,none⟩) (vs.length+1) cap) j m:=by
 have hI:=h.moved h4 hr
 obtain⟨o6,g6⟩:=znm (c0:=c0) (c1:=c1) (c2:=c2) (c3:=c3) (c4:=c4) hI.own.1 hown
 generalize ((((w5.setCell ⟨g,vs.length*5,none⟩ c0).setCell ⟨g,vs.length*5+1,none⟩ c1).setCell ⟨g,vs.length*5+2,none⟩ c2).setCell ⟨g,vs.length*5+3,none⟩ c3).setCell ⟨g,vs.length*5+4,none⟩ c4=w6 at o6 g6⊢
 have g7:=zaV w6 (W.heap.size+3) 3 (.slice (some ⟨g,0,none⟩) (vs.length+1) cap)
 have lt:=h.lt
 have hgB:W.heap.size+4≤g:=(hown.lt g rfl).1
 have lL:=fun k hk=>(hI.own.lt k hk).1
 have s4:=hI.sz
 have keep: ∀k,k<w4.heap.size→k<W.heap.size+4→k≠W.heap.size+3→(w6.setCell ⟨W.heap.size+3,3,none⟩ (.slice (some ⟨g,0,none⟩) (vs.length+1) cap)).heap[k]? =w4.heap[k]? :=fun k hk h1 h2=>by
  rw[g7.block k (Nat.lt_of_lt_of_le hk (Nat.le_trans hgr.size g6.size)) (by intro e;injection e with e;exact h2 e),g6.block k (Nat.lt_of_lt_of_le hk hgr.size) (by intro e;injection e with e;omega)]
  exact hgr.block k hk (fun e=>by have:=lL k e.symm;omega)
 have key: ∀b,b<w4.heap.size→W.heap.size+4≤b→vL.ownBlock≠some b→b≠g→(w6.setCell ⟨W.heap.size+3,3,none⟩ (.slice (some ⟨g,0,none⟩) (vs.length+1) cap)).heap[b]? =w4.heap[b]? :=fun b hk h1 h2 h3=>by
  rw[g7.block b (Nat.lt_of_lt_of_le hk (Nat.le_trans hgr.size g6.size)) (by intro e;injection e with e;omega),g6.block b (Nat.lt_of_lt_of_le hk hgr.size) (by intro e;injection e with e;exact h3 e)]
  exact hgr.block b hk (fun e=>h2 e.symm)
 have hsz:w4.heap.size≤(w6.setCell ⟨W.heap.size+3,3,none⟩ (.slice (some ⟨g,0,none⟩) (vs.length+1) cap)).heap.size:=Nat.le_trans hgr.size (Nat.le_trans g6.size g7.size)
 refine⟨(keep _ (by omega) (by omega) (by omega)).trans hI.c2,(keep _ (by omega) (by omega) (by omega)).trans hI.c3,(keep _ (by omega) (by omega) (by omega)).trans hI.c4,?_,?_,?_,?_,lt,Nat.le_trans s4 hsz,(keep rb hr.lt (by omega) (by omega)).trans hr⟩
 ·have:Blk w6 (W.heap.size+3) 27 [.int .i64 4,.int .i64 0,.string ⟨#[]⟩,vL,.slice none 0 0]:=
   ((hI.c5.grown hgr (fun e=>by have:=lL _ e.symm;omega))).grown g6 (by intro e;injection e with e;omega)
  exact this.setCell 3 _
 ·rw[List.length_append]
  exact o6.kept g7 (.inr (by simp[Value.ownBlock];omega))
 ·refine FlatJ.snoc ?_ ?_
  ·refine RepS.keeps (S:=fun b=>wr.heap.size≤b) ⟨hsz,fun b h1 h3=> ?_⟩ (fun b h1 h3=> ?_) _ _ hx
   ·replace h1:wr.heap.size≤b:=h1
    have hs:=h.sz
    refine key b h3 (by omega) (fun e=>by have:=(h.own.lt b e).2;omega) (fun e=> ?_)
    rcases hat with h|h
    ·have:=(‹LInv W wr rb s dep vs xs vL i n›.own.lt g h).2;omega
    ·omega
   ·replace h1:wr.heap.size≤b:=h1
    have hs:=h.sz
    refine⟨by omega,fun e=> ?_⟩
    have e:g=b:=by simpa[Value.ownBlock]using e
    rcases hat with h|h
    ·have:=(‹LInv W wr rb s dep vs xs vL i n›.own.lt g h).2;omega
    ·omega
  ·refine hI.flat.keeps ⟨hsz,fun b h1 h3=> ?_⟩ (fun b h1 h3=> ?_)
   ·refine key b h3 h1.1 h1.2 (fun e=> ?_)
    rcases hat with h|h
    ·exact h1.2 (by rw[h,e])
    ·omega
   ·refine⟨h1.1,fun e=> ?_⟩
    have e:g=b:=by simpa[Value.ownBlock]using e
    rcases hat with h|h
    ·exact h1.2 (by rw[h,e])
    ·omega
 ·refine⟨?_,?_,?_,Nat.le_trans hI.gr.size hsz,fun k hk hne=> ?_⟩
  ·exact(g7.os.trans (g6.os.trans (hgr.os))).trans hI.gr.os
  ·exact(g7.tape.trans (g6.tape.trans (hgr.tape))).trans hI.gr.tape
  ·exact(g7.output.trans (g6.output.trans (hgr.output))).trans hI.gr.output
  ·exact(keep k (Nat.lt_of_lt_of_le hk hI.gr.size) (by omega) (by omega)).trans (hI.gr.block k hk hne)
theorem infoJp:(Tryz.prog.info? 27).map (fun i=>(i.zero,i.size,i.bytes))=some (some (.agg zeros5.toArray),5,80):=by kernel_rfl
abbrev litZ:Obj:= .cells #[.int .i64 0,.int .i64 0,.string ⟨#[]⟩,.slice none 0 0,.slice none 0 0] 27
theorem zaZ {w w':World} {b o:Nat} {v:Value} {row:Option Nat} (h:w.cell? ⟨b,o,none⟩=some v) (hg:w.grownBy w' row) (hr:some b≠row):w'.cell? ⟨b,o,none⟩=some v:=hg.cell h hr
theorem zcv {w:World} {base g cap n size:Nat} {e:TypeId} {xs:List Value} (h:w.ownsRow base e size (.slice (some ⟨g,0,none⟩) n cap) n xs) (o:Nat):w.frozen? ⟨g,o,none⟩=false:=by
 rcases h.2 with⟨h',_⟩|⟨g',cap',cur,h',hb,hg,_⟩
 ·simp at h'
 ·simp only[Value.slice.injEq,Option.some.injEq,Addr.mk.injEq,and_true,true_and]at h'
  obtain⟨rfl,rfl⟩:=h'
  exact frozen_of_row w g o cur e hg
theorem zhb (w:World) {b c:Nat} (h: ¬b=c) (o p:Nat) (x y:Value):(w.setCell ⟨b,o,none⟩ x).setCell ⟨c,p,none⟩ y=(w.setCell ⟨c,p,none⟩ y).setCell ⟨b,o,none⟩ x:=by
 unfold World.setCell
 simp only[World.mk.injEq,true_and,and_true]
 refine Array.ext_getElem? fun i=> ?_
 simp only[Array.getElem?_modify]
 by_cases h1:b=i
 ·by_cases h2:c=i
  ·exact absurd (h1.trans h2.symm) h
  ·simp[h1,h2]
 ·by_cases h2:c=i
  ·simp[h1,h2]
  ·simp[h1,h2]
theorem set_far (w:World) {b g:Nat} (h: ¬b=g) {o o0 o1 o2 o3 o4:Nat} (v c0 c1 c2 c3 c4:Value):
  ((((((w.setCell ⟨b,o,none⟩ v).setCell ⟨g,o0,none⟩ c0).setCell ⟨g,o1,none⟩ c1).setCell ⟨g,o2,none⟩ c2).setCell ⟨g,o3,none⟩ c3).setCell ⟨g,o4,none⟩ c4)=((((((w.setCell ⟨g,o0,none⟩ c0).setCell ⟨g,o1,none⟩ c1).setCell ⟨g,o2,none⟩ c2).setCell ⟨g,o3,none⟩ c3).setCell ⟨g,o4,none⟩ c4).setCell ⟨b,o,none⟩ v):=by
 rw[zhb w h,zhb _ h,zhb _ h,zhb _ h,zhb _ h]
structure KeyP (G:Prop):Prop where
 out:G
theorem ziv {G R:Prop} (h:KeyP G→R) (g:G):R:=h ⟨g⟩
def Pack (wr w4:World) (rb:Nat) (s:ByteArray) (x:J) (q p:Nat) (m:Int) (v:Value) (lb:Nat):Prop:=
 wr.grownBy w4 (some rb)∧Rdr w4 rb s (q:Nat) m∧RepS w4 (fun b=>wr.heap.size≤b) x v∧w4.heap[lb]? =some litZ∧q≤s.size∧zaY (strL s) q=p
def ItemOk (W:World) (rb:Nat) (s:ByteArray) (dep:Int) (vs:List J) (x:J) (p:Nat) (n:Int) (e:Ending) (w':World):Prop:=
 ∃xs vL q,e= .returned (.tuple #[])∧q≤s.size∧zaY (strL s) q=p∧LInv W w' rb s dep (vs++[x]) xs vL (q:Nat) n
theorem item_bad_Nil (W wr:World) (rb:Nat) (s:ByteArray) (dep:Int) (hd:0≤dep∧dep≤9) (vs:List J) (xs:List Value) (vL:Value) (i n p er:Int) (h:LInv W wr rb s dep vs xs vL i n) (hvL:vL= .slice none 0 0)
  (hv: ∀w,Rdr w rb s i n→wr.grownBy w (some rb)→Calls Tryz.prog 111 #[.pointer (some ⟨rb,0,none⟩),.int .i64 (dep+1)] w (fun e w'=>e= .panicked (flt p er)∧w.grownBy w' (some rb))):
  Calls Tryz.prog 169 #[.pointer (some ⟨W.heap.size+3,0,none⟩),.pointer (some ⟨W.heap.size,0,none⟩),.pointer (some ⟨W.heap.size+1,0,none⟩)] wr (fun e w'=>e= .panicked (flt p er)∧W.grownBy w' (some rb)):=by
 subst hvL
 have HI:=Lib.hid h
 have HV:=Lib.hid hv
 have hlt:=h.lt
 have hsz:=h.sz
 have k2:wr.cell? ⟨W.heap.size,0,none⟩=some (.pointer (some ⟨rb,0,none⟩)):=h.c2.cell 0
 have k3:wr.cell? ⟨W.heap.size+1,0,none⟩=some (.int .i64 dep):=h.c3.cell 0
 have k5:wr.cell? ⟨W.heap.size+3,3,none⟩=some (.slice none 0 0):=h.c5.cell 3
 have l2:(wr.alloc litZ).cell? ⟨W.heap.size,0,none⟩=some (.pointer (some ⟨rb,0,none⟩)):=(World.grownBy_alloc wr litZ none).cell k2 (by simp)
 have l3:(wr.alloc litZ).cell? ⟨W.heap.size+1,0,none⟩=some (.int .i64 dep):=(World.grownBy_alloc wr litZ none).cell k3 (by simp)
 have l5:(wr.alloc litZ).cell? ⟨W.heap.size+3,3,none⟩=some (.slice none 0 0):=(World.grownBy_alloc wr litZ none).cell k5 (by simp)
 obtain⟨d0,d1⟩:=hd
 have hw:IntKind.i64.wrap (dep+1)=dep+1:=by rw[IntKind.wrap_i64];omega
 clear h hv
 go_enter Tryz.func169,Tryz.ntmps169
 refine wp_region_held_drew (S:=fun X=>X.cell? ⟨W.heap.size,0,none⟩=some (.pointer (some ⟨rb,0,none⟩))∧X.cell? ⟨W.heap.size+1,0,none⟩=some (.int .i64 dep)) (by kernel_rfl) ⟨k2,k3⟩ (fun hHeld=> ?_)
 refine wpAnyH_take (i:=0) (v:= ?v0q1) rfl (by kernel_rfl) (by kernel_rfl) (by kernel_rfl) (fun _ _ _ h=>h) (Or.inl ⟨by rfl,?hy0q1⟩) (by assumption) ?rest0q1
 case hy0q1=>(intro w hSw;(try obtain⟨hSa,hSb⟩:=hSw);first|(go_simp;done)|(go_simp;with_reducible rfl))
 try simp only[rgS]
 refine wpAnyH_take (i:=2) (v:= ?v2q2) rfl (by kernel_rfl) (by kernel_rfl) (by kernel_rfl) (fun _ _ _ h=>h) (Or.inl ⟨by rfl,?hy2q2⟩) (by assumption) ?rest2q2
 case hy2q2=>(intro w hSw;(try obtain⟨hSa,hSb⟩:=hSw);first|(go_simp;done)|(go_simp;with_reducible rfl))
 try simp only[rgS]
 refine wpAnyH_take (i:=3) (v:= ?v3q3) rfl (by kernel_rfl) (by kernel_rfl) (by kernel_rfl) (fun _ _ _ h=>h) (Or.inl ⟨by rfl,?hy3q3⟩) (by assumption) ?rest3q3
 case hy3q3=>(intro w hSw;(try obtain⟨hSa,hSb⟩:=hSw);first|(go_simp;done)|(go_simp;with_reducible rfl))
 try simp only[rgS]
 refine wpAnyH_take (i:=4) (v:= ?v4q4) rfl (by kernel_rfl) (by kernel_rfl) (by kernel_rfl) (fun _ _ _ h=>h) (Or.inl ⟨by rfl,?hy4q4⟩) (by assumption) ?rest4q4
 case hy4q4=>(intro w hSw;(try obtain⟨hSa,hSb⟩:=hSw);first|(go_simp;done)|(go_simp;with_reducible rfl))
 try simp only[rgS]
 refine wpAnyH_ready (rs:=[1,5,7]) (by kernel_rfl) (by simp) ?_
 refine AllReadyH.cons rfl (fun K hK=> ?_) ?_
 ·skip
  go_simp
  refine hK.out _ _ ⟨k2,k3⟩ (fun hHeld=> ?_)
  clear hK K
  try simp only[rgS]
  refine wpAnyH_take (i:=6) (v:= ?v6q5) rfl (by kernel_rfl) (by kernel_rfl) (by kernel_rfl) (fun _ _ _ h=>h) (Or.inl ⟨by rfl,?hy6q5⟩) (by assumption) ?rest6q5
  case hy6q5=>(intro w hSw;(try obtain⟨hSa,hSb⟩:=hSw);first|(go_simp;done)|(go_simp;with_reducible rfl))
  try simp only[rgS]
  refine wpAnyH_ready (rs:=[5,7]) (by kernel_rfl) (by simp) ?_
  refine AllReadyH.cons rfl (fun K hK=> ?_) ?_
  ·skip
   go_simp
   go_at_call 111
   (with_reducible refine(HV.out _ (Blk.drew HI.out.rdr) (zaJ (zae wr _))).mono ?_)
   rintro e w3 ⟨rfl,hg3⟩
   exact⟨rfl,rfl,HI.out.gr.trans ((zaJ (zae wr _)).trans hg3)⟩
  refine AllReadyH.cons rfl (fun K hK=> ?_) AllReadyH.nil
  go_simp
  refine hK.out _ _ ⟨l2,l3⟩ (fun hHeld=> ?_)
  clear hK K
  try simp only[rgS]
  refine wpAnyH_ready (rs:=[5]) (by kernel_rfl) (by simp) ?_
  refine AllReadyH.cons rfl (fun K hK=> ?_) AllReadyH.nil
  go_simp
  go_at_call 111
  (with_reducible refine(HV.out _ (Blk.drew (Blk.grownN HI.out.rdr (World.grownBy_alloc wr litZ none))) (zaJ (World.grownBy_alloc wr litZ _))).mono ?_)
  rintro e w3 ⟨rfl,hg3⟩
  exact⟨rfl,rfl,HI.out.gr.trans ((zaJ (World.grownBy_alloc wr litZ _)).trans hg3)⟩
 refine AllReadyH.cons rfl (fun K hK=> ?_) ?_
 ·skip
  go_simp
  go_at_call 111
  (with_reducible refine(HV.out _ (Blk.drew HI.out.rdr) (zaJ (zae wr _))).mono ?_)
  rintro e w3 ⟨rfl,hg3⟩
  exact⟨rfl,rfl,HI.out.gr.trans ((zaJ (zae wr _)).trans hg3)⟩
 refine AllReadyH.cons rfl (fun K hK=> ?_) AllReadyH.nil
 go_simp
 refine hK.out _ _ ⟨l2,l3⟩ (fun hHeld=> ?_)
 clear hK K
 try simp only[rgS]
 refine wpAnyH_ready (rs:=[1,5]) (by kernel_rfl) (by simp) ?_
 refine AllReadyH.cons rfl (fun K hK=> ?_) ?_
 ·skip
  go_simp
  refine hK.out _ _ ⟨l2,l3⟩ (fun hHeld=> ?_)
  clear hK K
  try simp only[rgS]
  refine wpAnyH_take (i:=6) (v:= ?v6q6) rfl (by kernel_rfl) (by kernel_rfl) (by kernel_rfl) (fun _ _ _ h=>h) (Or.inl ⟨by rfl,?hy6q6⟩) (by assumption) ?rest6q6
  case hy6q6=>(intro w hSw;(try obtain⟨hSa,hSb⟩:=hSw);first|(go_simp;done)|(go_simp;with_reducible rfl))
  try simp only[rgS]
  refine wpAnyH_ready (rs:=[5]) (by kernel_rfl) (by simp) ?_
  refine AllReadyH.cons rfl (fun K hK=> ?_) AllReadyH.nil
  go_simp
  go_at_call 111
  (with_reducible refine(HV.out _ (Blk.drew (Blk.grownN HI.out.rdr (World.grownBy_alloc wr litZ none))) (zaJ (World.grownBy_alloc wr litZ _))).mono ?_)
  rintro e w3 ⟨rfl,hg3⟩
  exact⟨rfl,rfl,HI.out.gr.trans ((zaJ (World.grownBy_alloc wr litZ _)).trans hg3)⟩
 refine AllReadyH.cons rfl (fun K hK=> ?_) AllReadyH.nil
 go_simp
 go_at_call 111
 (with_reducible refine(HV.out _ (Blk.drew (Blk.grownN HI.out.rdr (World.grownBy_alloc wr litZ none))) (zaJ (World.grownBy_alloc wr litZ _))).mono ?_)
 rintro e w3 ⟨rfl,hg3⟩
 exact⟨rfl,rfl,HI.out.gr.trans ((zaJ (World.grownBy_alloc wr litZ _)).trans hg3)⟩
theorem znv (W wr:World) (rb:Nat) (s:ByteArray) (dep:Int) (hd:0≤dep∧dep≤9) (vs:List J) (xs:List Value) (vL:Value) (i n p er:Int) (h:LInv W wr rb s dep vs xs vL i n) (hvL: ∃g0 cap0,vL= .slice (some ⟨g0,0,none⟩) vs.length cap0)
  (hv: ∀w,Rdr w rb s i n→wr.grownBy w (some rb)→Calls Tryz.prog 111 #[.pointer (some ⟨rb,0,none⟩),.int .i64 (dep+1)] w (fun e w'=>e= .panicked (flt p er)∧w.grownBy w' (some rb))):
  Calls Tryz.prog 169 #[.pointer (some ⟨W.heap.size+3,0,none⟩),.pointer (some ⟨W.heap.size,0,none⟩),.pointer (some ⟨W.heap.size+1,0,none⟩)] wr (fun e w'=>e= .panicked (flt p er)∧W.grownBy w' (some rb)):=by
 obtain⟨g0,cap0,rfl⟩:=hvL
 have HI:=Lib.hid h
 have HV:=Lib.hid hv
 have hlt:=h.lt
 have hsz:=h.sz
 have k2:wr.cell? ⟨W.heap.size,0,none⟩=some (.pointer (some ⟨rb,0,none⟩)):=h.c2.cell 0
 have k3:wr.cell? ⟨W.heap.size+1,0,none⟩=some (.int .i64 dep):=h.c3.cell 0
 have k5:wr.cell? ⟨W.heap.size+3,3,none⟩=some (.slice (some ⟨g0,0,none⟩) vs.length cap0):=h.c5.cell 3
 have l2:(wr.alloc litZ).cell? ⟨W.heap.size,0,none⟩=some (.pointer (some ⟨rb,0,none⟩)):=(World.grownBy_alloc wr litZ none).cell k2 (by simp)
 have l3:(wr.alloc litZ).cell? ⟨W.heap.size+1,0,none⟩=some (.int .i64 dep):=(World.grownBy_alloc wr litZ none).cell k3 (by simp)
 have l5:(wr.alloc litZ).cell? ⟨W.heap.size+3,3,none⟩=some (.slice (some ⟨g0,0,none⟩) vs.length cap0):=(World.grownBy_alloc wr litZ none).cell k5 (by simp)
 obtain⟨d0,d1⟩:=hd
 have hw:IntKind.i64.wrap (dep+1)=dep+1:=by rw[IntKind.wrap_i64];omega
 clear h hv
 go_enter Tryz.func169,Tryz.ntmps169
 refine wp_region_held_drew (S:=fun X=>X.cell? ⟨W.heap.size,0,none⟩=some (.pointer (some ⟨rb,0,none⟩))∧X.cell? ⟨W.heap.size+1,0,none⟩=some (.int .i64 dep)) (by kernel_rfl) ⟨k2,k3⟩ (fun hHeld=> ?_)
 refine wpAnyH_take (i:=0) (v:= ?v0q33) rfl (by kernel_rfl) (by kernel_rfl) (by kernel_rfl) (fun _ _ _ h=>h) (Or.inl ⟨by rfl,?hy0q33⟩) (by assumption) ?rest0q33
 case hy0q33=>(intro w hSw;(try obtain⟨hSa,hSb⟩:=hSw);first|(go_simp;done)|(go_simp;with_reducible rfl))
 try simp only[rgS]
 refine wpAnyH_take (i:=2) (v:= ?v2q34) rfl (by kernel_rfl) (by kernel_rfl) (by kernel_rfl) (fun _ _ _ h=>h) (Or.inl ⟨by rfl,?hy2q34⟩) (by assumption) ?rest2q34
 case hy2q34=>(intro w hSw;(try obtain⟨hSa,hSb⟩:=hSw);first|(go_simp;done)|(go_simp;with_reducible rfl))
 try simp only[rgS]
 refine wpAnyH_take (i:=3) (v:= ?v3q35) rfl (by kernel_rfl) (by kernel_rfl) (by kernel_rfl) (fun _ _ _ h=>h) (Or.inl ⟨by rfl,?hy3q35⟩) (by assumption) ?rest3q35
 case hy3q35=>(intro w hSw;(try obtain⟨hSa,hSb⟩:=hSw);first|(go_simp;done)|(go_simp;with_reducible rfl))
 try simp only[rgS]
 refine wpAnyH_take (i:=4) (v:= ?v4q36) rfl (by kernel_rfl) (by kernel_rfl) (by kernel_rfl) (fun _ _ _ h=>h) (Or.inl ⟨by rfl,?hy4q36⟩) (by assumption) ?rest4q36
 case hy4q36=>(intro w hSw;(try obtain⟨hSa,hSb⟩:=hSw);first|(go_simp;done)|(go_simp;with_reducible rfl))
 try simp only[rgS]
 refine wpAnyH_ready (rs:=[1,5,7]) (by kernel_rfl) (by simp) ?_
 refine AllReadyH.cons rfl (fun K hK=> ?_) ?_
 ·skip
  go_simp
  refine hK.out _ _ ⟨k2,k3⟩ (fun hHeld=> ?_)
  clear hK K
  try simp only[rgS]
  refine wpAnyH_take (i:=6) (v:= ?v6q37) rfl (by kernel_rfl) (by kernel_rfl) (by kernel_rfl) (fun _ _ _ h=>h) (Or.inl ⟨by rfl,?hy6q37⟩) (by assumption) ?rest6q37
  case hy6q37=>(intro w hSw;(try obtain⟨hSa,hSb⟩:=hSw);first|(go_simp;done)|(go_simp;with_reducible rfl))
  try simp only[rgS]
  refine wpAnyH_ready (rs:=[5,7]) (by kernel_rfl) (by simp) ?_
  refine AllReadyH.cons rfl (fun K hK=> ?_) ?_
  ·skip
   go_simp
   go_at_call 111
   (with_reducible refine(HV.out _ (Blk.drew HI.out.rdr) (zaJ (zae wr _))).mono ?_)
   rintro e w3 ⟨rfl,hg3⟩
   exact⟨rfl,rfl,HI.out.gr.trans ((zaJ (zae wr _)).trans hg3)⟩
  refine AllReadyH.cons rfl (fun K hK=> ?_) AllReadyH.nil
  go_simp
  refine hK.out _ _ ⟨l2,l3⟩ (fun hHeld=> ?_)
  clear hK K
  try simp only[rgS]
  refine wpAnyH_ready (rs:=[5]) (by kernel_rfl) (by simp) ?_
  refine AllReadyH.cons rfl (fun K hK=> ?_) AllReadyH.nil
  go_simp
  go_at_call 111
  (with_reducible refine(HV.out _ (Blk.drew (Blk.grownN HI.out.rdr (World.grownBy_alloc wr litZ none))) (zaJ (World.grownBy_alloc wr litZ _))).mono ?_)
  rintro e w3 ⟨rfl,hg3⟩
  exact⟨rfl,rfl,HI.out.gr.trans ((zaJ (World.grownBy_alloc wr litZ _)).trans hg3)⟩
 refine AllReadyH.cons rfl (fun K hK=> ?_) ?_
 ·skip
  go_simp
  go_at_call 111
  (with_reducible refine(HV.out _ (Blk.drew HI.out.rdr) (zaJ (zae wr _))).mono ?_)
  rintro e w3 ⟨rfl,hg3⟩
  exact⟨rfl,rfl,HI.out.gr.trans ((zaJ (zae wr _)).trans hg3)⟩
 refine AllReadyH.cons rfl (fun K hK=> ?_) AllReadyH.nil
 go_simp
 refine hK.out _ _ ⟨l2,l3⟩ (fun hHeld=> ?_)
 clear hK K
 try simp only[rgS]
 refine wpAnyH_ready (rs:=[1,5]) (by kernel_rfl) (by simp) ?_
 refine AllReadyH.cons rfl (fun K hK=> ?_) ?_
 ·skip
  go_simp
  refine hK.out _ _ ⟨l2,l3⟩ (fun hHeld=> ?_)
  clear hK K
  try simp only[rgS]
  refine wpAnyH_take (i:=6) (v:= ?v6q38) rfl (by kernel_rfl) (by kernel_rfl) (by kernel_rfl) (fun _ _ _ h=>h) (Or.inl ⟨by rfl,?hy6q38⟩) (by assumption) ?rest6q38
  case hy6q38=>(intro w hSw;(try obtain⟨hSa,hSb⟩:=hSw);first|(go_simp;done)|(go_simp;with_reducible rfl))
  try simp only[rgS]
  refine wpAnyH_ready (rs:=[5]) (by kernel_rfl) (by simp) ?_
  refine AllReadyH.cons rfl (fun K hK=> ?_) AllReadyH.nil
  go_simp
  go_at_call 111
  (with_reducible refine(HV.out _ (Blk.drew (Blk.grownN HI.out.rdr (World.grownBy_alloc wr litZ none))) (zaJ (World.grownBy_alloc wr litZ _))).mono ?_)
  rintro e w3 ⟨rfl,hg3⟩
  exact⟨rfl,rfl,HI.out.gr.trans ((zaJ (World.grownBy_alloc wr litZ _)).trans hg3)⟩
 refine AllReadyH.cons rfl (fun K hK=> ?_) AllReadyH.nil
 go_simp
 go_at_call 111
 (with_reducible refine(HV.out _ (Blk.drew (Blk.grownN HI.out.rdr (World.grownBy_alloc wr litZ none))) (zaJ (World.grownBy_alloc wr litZ _))).mono ?_)
 rintro e w3 ⟨rfl,hg3⟩
 exact⟨rfl,rfl,HI.out.gr.trans ((zaJ (World.grownBy_alloc wr litZ _)).trans hg3)⟩
theorem item_ok_Nil (W wr:World) (rb:Nat) (s:ByteArray) (dep:Int) (hd:0≤dep∧dep≤9) (vs:List J) (xs:List Value) (vL:Value) (hvs:vs.length≤10000) (i n m:Int) (x:J) (p:Nat) (h:LInv W wr rb s dep vs xs vL i n) (hvL:vL= .slice none 0 0)
  (hv: ∀w,Rdr w rb s i n→wr.grownBy w (some rb)→Calls Tryz.prog 111 #[.pointer (some ⟨rb,0,none⟩),.int .i64 (dep+1)] w (fun e w'=> ∃v q,e= .returned v∧RepS w' (fun b=>w.heap.size≤b) x v∧q≤s.size∧zaY (strL s) q=p∧zch w w' rb s (q:Nat) m)):
  Calls Tryz.prog 169 #[.pointer (some ⟨W.heap.size+3,0,none⟩),.pointer (some ⟨W.heap.size,0,none⟩),.pointer (some ⟨W.heap.size+1,0,none⟩)] wr (ItemOk W rb s dep vs x p m):=by
 subst hvL
 obtain rfl:vs=[]:=by rcases h.own.2 with⟨_,h0⟩|⟨_,_,_,h0,_⟩<;>first|exact List.eq_nil_of_length_eq_zero h0|(simp at h0)
 obtain rfl:xs=[]:=List.eq_nil_of_length_eq_zero (by have:=h.own.1;simpa using this)
 have HI:=Lib.hid h
 have HV:=Lib.hid hv
 have hlt:=h.lt
 have hsz:=h.sz
 have k2:wr.cell? ⟨W.heap.size,0,none⟩=some (.pointer (some ⟨rb,0,none⟩)):=h.c2.cell 0
 have k3:wr.cell? ⟨W.heap.size+1,0,none⟩=some (.int .i64 dep):=h.c3.cell 0
 have k5:wr.cell? ⟨W.heap.size+3,3,none⟩=some (.slice none 0 0):=h.c5.cell 3
 have l2:(wr.alloc litZ).cell? ⟨W.heap.size,0,none⟩=some (.pointer (some ⟨rb,0,none⟩)):=(World.grownBy_alloc wr litZ none).cell k2 (by simp)
 have l3:(wr.alloc litZ).cell? ⟨W.heap.size+1,0,none⟩=some (.int .i64 dep):=(World.grownBy_alloc wr litZ none).cell k3 (by simp)
 have l5:(wr.alloc litZ).cell? ⟨W.heap.size+3,3,none⟩=some (.slice none 0 0):=(World.grownBy_alloc wr litZ none).cell k5 (by simp)
 obtain⟨d0,d1⟩:=hd
 have hw:IntKind.i64.wrap (dep+1)=dep+1:=by rw[IntKind.wrap_i64];omega
 have HXL:=Lib.hid h.own.1
 obtain⟨iJ,hJ,hJ0,hJ1,hJ2⟩:=info_parts infoJp
 clear h hv
 go_enter Tryz.func169,Tryz.ntmps169
 refine wp_region_held_drew (S:=fun X=>X.cell? ⟨W.heap.size,0,none⟩=some (.pointer (some ⟨rb,0,none⟩))∧X.cell? ⟨W.heap.size+1,0,none⟩=some (.int .i64 dep)) (by kernel_rfl) ⟨k2,k3⟩ (fun hHeld=> ?_)
 refine wpAnyH_take (i:=0) (v:= ?v0q7) rfl (by kernel_rfl) (by kernel_rfl) (by kernel_rfl) (fun _ _ _ h=>h) (Or.inl ⟨by rfl,?hy0q7⟩) (by assumption) ?rest0q7
 case hy0q7=>(intro w hSw;(try obtain⟨hSa,hSb⟩:=hSw);first|(go_simp;done)|(go_simp;with_reducible rfl))
 try simp only[rgS]
 refine wpAnyH_take (i:=2) (v:= ?v2q8) rfl (by kernel_rfl) (by kernel_rfl) (by kernel_rfl) (fun _ _ _ h=>h) (Or.inl ⟨by rfl,?hy2q8⟩) (by assumption) ?rest2q8
 case hy2q8=>(intro w hSw;(try obtain⟨hSa,hSb⟩:=hSw);first|(go_simp;done)|(go_simp;with_reducible rfl))
 try simp only[rgS]
 refine wpAnyH_take (i:=3) (v:= ?v3q9) rfl (by kernel_rfl) (by kernel_rfl) (by kernel_rfl) (fun _ _ _ h=>h) (Or.inl ⟨by rfl,?hy3q9⟩) (by assumption) ?rest3q9
 case hy3q9=>(intro w hSw;(try obtain⟨hSa,hSb⟩:=hSw);first|(go_simp;done)|(go_simp;with_reducible rfl))
 try simp only[rgS]
 refine wpAnyH_take (i:=4) (v:= ?v4q10) rfl (by kernel_rfl) (by kernel_rfl) (by kernel_rfl) (fun _ _ _ h=>h) (Or.inl ⟨by rfl,?hy4q10⟩) (by assumption) ?rest4q10
 case hy4q10=>(intro w hSw;(try obtain⟨hSa,hSb⟩:=hSw);first|(go_simp;done)|(go_simp;with_reducible rfl))
 try simp only[rgS]
 apply ziv
 ·intro key
  refine wpAnyH_ready (rs:=[1,5,7]) (by kernel_rfl) (by simp) ?_
  refine AllReadyH.cons rfl (fun K hK=> ?_) ?_
  ·skip
   go_simp
   refine hK.out _ _ ⟨k2,k3⟩ (fun hH11=> ?_)
   clear hK K
   try simp only[rgS]
   refine wpAnyH_take (i:=6) (v:= ?v6q12) rfl (by kernel_rfl) (by kernel_rfl) (by kernel_rfl) (fun _ _ _ h=>h) (Or.inl ⟨by rfl,?hy6q12⟩) (by assumption) ?rest6q12
   case hy6q12=>(intro w hSw;(try obtain⟨hSa,hSb⟩:=hSw);first|(go_simp;done)|(go_simp;with_reducible rfl))
   try simp only[rgS]
   refine wpAnyH_ready (rs:=[5,7]) (by kernel_rfl) (by simp) ?_
   refine AllReadyH.cons rfl (fun K hK=> ?_) ?_
   ·skip
    go_simp
    go_at_call 111
    (with_reducible refine(HV.out _ (Blk.drew HI.out.rdr) (zaJ (zae wr _))).mono ?_)
    rintro e w3 ⟨v,q,rfl,hrep,hq,hsk,hg3,hr3⟩
    obtain⟨vk,A,c9,rfl, -,⟨K9,d9,rfl, -, -⟩, -, -⟩:=hrep.open
    obtain⟨x0,hx0⟩: ∃a,a=x.kind:=⟨_,rfl⟩
    obtain⟨x1,hx1⟩: ∃a,a=x.n:=⟨_,rfl⟩
    obtain⟨x2,hx2⟩: ∃a,a=x.s:=⟨_,rfl⟩
    obtain⟨x3,hx3⟩: ∃a,a=x.l.length:=⟨_,rfl⟩
    obtain⟨x4,hx4⟩: ∃a,a=x.k.length:=⟨_,rfl⟩
    rw[←hx0,←hx1,←hx2,←hx3,←hx4]at hrep⊢
    clear hx0 hx1 hx2 hx3 hx4
    have HG3:=Lib.hid ((zaJ (zae wr _)).trans hg3)
    have HX:Hid (RepS w3 (fun b=>wr.heap.size≤b) x (.agg #[.int .i64 x0,.int .i64 x1,.string x2,.slice A x3 c9,.slice K9 x4 d9])):=Lib.hid (RepS.keeps (Keeps.refl _ w3) (fun b (h:_≤b) _=>show wr.heap.size≤b from Nat.le_trans (World.grownBy.size (row:=some rb) (zaJ (zae wr _))) h) _ _ hrep)
    have HQ:=Lib.hid (And.intro hq hsk)
    have HR3:=Lib.hid hr3
    clear hrep hq hsk hg3 hr3
    have m2:(w3).cell? ⟨W.heap.size,0,none⟩=some (.pointer (some ⟨rb,0,none⟩)):=zaZ k2 HG3.out (by intro e;injection e with e<;>omega)
    have m3:(w3).cell? ⟨W.heap.size+1,0,none⟩=some (.int .i64 dep):=zaZ k3 HG3.out (by intro e;injection e with e<;>omega)
    have m5:(w3).cell? ⟨W.heap.size+3,3,none⟩=some (.slice none 0 0):=zaZ k5 HG3.out (by intro e;injection e with e<;>omega)
    refine hK.out _ _ ⟨m2,m3⟩ (fun hH13=> ?_)
    clear hK K
    try simp only[rgS]
    refine wpAnyH_ready (rs:=[7]) (by kernel_rfl) (by simp) ?_
    refine AllReadyH.cons rfl (fun K hK=> ?_) AllReadyH.nil
    go_simp
    have n2:(w3.alloc litZ).cell? ⟨W.heap.size,0,none⟩=some (.pointer (some ⟨rb,0,none⟩)):=zaZ k2 (HG3.out.trans (World.grownBy_alloc w3 litZ (some rb))) (by intro e;injection e with e<;>omega)
    have n3:(w3.alloc litZ).cell? ⟨W.heap.size+1,0,none⟩=some (.int .i64 dep):=zaZ k3 (HG3.out.trans (World.grownBy_alloc w3 litZ (some rb))) (by intro e;injection e with e<;>omega)
    have n5:(w3.alloc litZ).cell? ⟨W.heap.size+3,3,none⟩=some (.slice none 0 0):=zaZ k5 (HG3.out.trans (World.grownBy_alloc w3 litZ (some rb))) (by intro e;injection e with e<;>omega)
    refine hK.out _ _ ⟨n2,n3⟩ (fun hH14=> ?_)
    clear hK K
    try simp only[rgS]
    have HP:Hid (Pack wr (w3.alloc litZ) rb s x q p m (.agg #[.int .i64 x0,.int .i64 x1,.string x2,.slice A x3 c9,.slice K9 x4 d9]) w3.heap.size):=Lib.hid ⟨HG3.out.trans (World.grownBy_alloc w3 litZ _),Blk.grownN HR3.out (World.grownBy_alloc w3 litZ none),RepS.keeps (Keeps.grown (World.grownBy_alloc w3 litZ none) (fun b _ e=>by cases e)) (fun _ h _=>h) _ _ HX.out,heap_alloc_new w3 litZ,HQ.out.1,HQ.out.2⟩
    clear HG3 HR3 HX HQ m2 m3 m5 n2 n3 n5 hH13 hH14
    generalize w3.heap.size=lb at HP⊢
    generalize w3.alloc litZ=w4 at HP⊢
    revert HP;revert lb;revert w4;revert q;revert x0;revert x1;revert x2;revert x3;revert x4;revert A;revert c9;revert K9;revert d9
    exact key.out
   refine AllReadyH.cons rfl (fun K hK=> ?_) AllReadyH.nil
   go_simp
   refine hK.out _ _ ⟨l2,l3⟩ (fun hH15=> ?_)
   clear hK K
   try simp only[rgS]
   refine wpAnyH_ready (rs:=[5]) (by kernel_rfl) (by simp) ?_
   refine AllReadyH.cons rfl (fun K hK=> ?_) AllReadyH.nil
   go_simp
   go_at_call 111
   (with_reducible refine(HV.out _ (Blk.drew (Blk.grownN HI.out.rdr (World.grownBy_alloc wr litZ none))) (zaJ (World.grownBy_alloc wr litZ _))).mono ?_)
   rintro e w3 ⟨v,q,rfl,hrep,hq,hsk,hg3,hr3⟩
   obtain⟨vk,A,c9,rfl, -,⟨K9,d9,rfl, -, -⟩, -, -⟩:=hrep.open
   obtain⟨x0,hx0⟩: ∃a,a=x.kind:=⟨_,rfl⟩
   obtain⟨x1,hx1⟩: ∃a,a=x.n:=⟨_,rfl⟩
   obtain⟨x2,hx2⟩: ∃a,a=x.s:=⟨_,rfl⟩
   obtain⟨x3,hx3⟩: ∃a,a=x.l.length:=⟨_,rfl⟩
   obtain⟨x4,hx4⟩: ∃a,a=x.k.length:=⟨_,rfl⟩
   rw[←hx0,←hx1,←hx2,←hx3,←hx4]at hrep⊢
   clear hx0 hx1 hx2 hx3 hx4
   have HG3:=Lib.hid ((zaJ (World.grownBy_alloc wr litZ _)).trans hg3)
   have HX:Hid (RepS w3 (fun b=>wr.heap.size≤b) x (.agg #[.int .i64 x0,.int .i64 x1,.string x2,.slice A x3 c9,.slice K9 x4 d9])):=Lib.hid (RepS.keeps (Keeps.refl _ w3) (fun b (h:_≤b) _=>show wr.heap.size≤b from Nat.le_trans (World.grownBy.size (row:=some rb) (zaJ (World.grownBy_alloc wr litZ _))) h) _ _ hrep)
   have HQ:=Lib.hid (And.intro hq hsk)
   have HR3:=Lib.hid hr3
   have HLB:Hid (w3.heap[wr.heap.size]? =some litZ):=Lib.hid ((hg3.block wr.heap.size (by simp) (by intro e;injection e with e<;>omega)).trans (heap_alloc_new wr litZ))
   clear hrep hq hsk hg3 hr3
   have m2:(w3).cell? ⟨W.heap.size,0,none⟩=some (.pointer (some ⟨rb,0,none⟩)):=zaZ k2 HG3.out (by intro e;injection e with e<;>omega)
   have m3:(w3).cell? ⟨W.heap.size+1,0,none⟩=some (.int .i64 dep):=zaZ k3 HG3.out (by intro e;injection e with e<;>omega)
   have m5:(w3).cell? ⟨W.heap.size+3,3,none⟩=some (.slice none 0 0):=zaZ k5 HG3.out (by intro e;injection e with e<;>omega)
   refine hK.out _ _ ⟨m2,m3⟩ (fun hH16=> ?_)
   clear hK K
   try simp only[rgS]
   have HP:Hid (Pack wr w3 rb s x q p m (.agg #[.int .i64 x0,.int .i64 x1,.string x2,.slice A x3 c9,.slice K9 x4 d9]) wr.heap.size):=Lib.hid ⟨HG3.out,HR3.out,HX.out,HLB.out,HQ.out.1,HQ.out.2⟩
   clear HG3 HR3 HX HLB HQ m2 m3 m5 hH16
   generalize wr.heap.size=lb at HP⊢
   revert HP;revert lb;revert w3;revert q;revert x0;revert x1;revert x2;revert x3;revert x4;revert A;revert c9;revert K9;revert d9
   exact key.out
  refine AllReadyH.cons rfl (fun K hK=> ?_) ?_
  ·skip
   go_simp
   go_at_call 111
   (with_reducible refine(HV.out _ (Blk.drew HI.out.rdr) (zaJ (zae wr _))).mono ?_)
   rintro e w3 ⟨v,q,rfl,hrep,hq,hsk,hg3,hr3⟩
   obtain⟨vk,A,c9,rfl, -,⟨K9,d9,rfl, -, -⟩, -, -⟩:=hrep.open
   obtain⟨x0,hx0⟩: ∃a,a=x.kind:=⟨_,rfl⟩
   obtain⟨x1,hx1⟩: ∃a,a=x.n:=⟨_,rfl⟩
   obtain⟨x2,hx2⟩: ∃a,a=x.s:=⟨_,rfl⟩
   obtain⟨x3,hx3⟩: ∃a,a=x.l.length:=⟨_,rfl⟩
   obtain⟨x4,hx4⟩: ∃a,a=x.k.length:=⟨_,rfl⟩
   rw[←hx0,←hx1,←hx2,←hx3,←hx4]at hrep⊢
   clear hx0 hx1 hx2 hx3 hx4
   have HG3:=Lib.hid ((zaJ (zae wr _)).trans hg3)
   have HX:Hid (RepS w3 (fun b=>wr.heap.size≤b) x (.agg #[.int .i64 x0,.int .i64 x1,.string x2,.slice A x3 c9,.slice K9 x4 d9])):=Lib.hid (RepS.keeps (Keeps.refl _ w3) (fun b (h:_≤b) _=>show wr.heap.size≤b from Nat.le_trans (World.grownBy.size (row:=some rb) (zaJ (zae wr _))) h) _ _ hrep)
   have HQ:=Lib.hid (And.intro hq hsk)
   have HR3:=Lib.hid hr3
   clear hrep hq hsk hg3 hr3
   have m2:(w3).cell? ⟨W.heap.size,0,none⟩=some (.pointer (some ⟨rb,0,none⟩)):=zaZ k2 HG3.out (by intro e;injection e with e<;>omega)
   have m3:(w3).cell? ⟨W.heap.size+1,0,none⟩=some (.int .i64 dep):=zaZ k3 HG3.out (by intro e;injection e with e<;>omega)
   have m5:(w3).cell? ⟨W.heap.size+3,3,none⟩=some (.slice none 0 0):=zaZ k5 HG3.out (by intro e;injection e with e<;>omega)
   refine hK.out _ _ ⟨m2,m3⟩ (fun hH17=> ?_)
   clear hK K
   try simp only[rgS]
   refine wpAnyH_ready (rs:=[1,7]) (by kernel_rfl) (by simp) ?_
   refine AllReadyH.cons rfl (fun K hK=> ?_) ?_
   ·skip
    go_simp
    refine hK.out _ _ ⟨m2,m3⟩ (fun hH18=> ?_)
    clear hK K
    try simp only[rgS]
    refine wpAnyH_take (i:=6) (v:= ?v6q19) rfl (by kernel_rfl) (by kernel_rfl) (by kernel_rfl) (fun _ _ _ h=>h) (Or.inl ⟨by rfl,?hy6q19⟩) (by assumption) ?rest6q19
    case hy6q19=>(intro w hSw;(try obtain⟨hSa,hSb⟩:=hSw);first|(go_simp;done)|(go_simp;with_reducible rfl))
    try simp only[rgS]
    refine wpAnyH_ready (rs:=[7]) (by kernel_rfl) (by simp) ?_
    refine AllReadyH.cons rfl (fun K hK=> ?_) AllReadyH.nil
    go_simp
    have n2:(w3.alloc litZ).cell? ⟨W.heap.size,0,none⟩=some (.pointer (some ⟨rb,0,none⟩)):=zaZ k2 (HG3.out.trans (World.grownBy_alloc w3 litZ (some rb))) (by intro e;injection e with e<;>omega)
    have n3:(w3.alloc litZ).cell? ⟨W.heap.size+1,0,none⟩=some (.int .i64 dep):=zaZ k3 (HG3.out.trans (World.grownBy_alloc w3 litZ (some rb))) (by intro e;injection e with e<;>omega)
    have n5:(w3.alloc litZ).cell? ⟨W.heap.size+3,3,none⟩=some (.slice none 0 0):=zaZ k5 (HG3.out.trans (World.grownBy_alloc w3 litZ (some rb))) (by intro e;injection e with e<;>omega)
    refine hK.out _ _ ⟨n2,n3⟩ (fun hH20=> ?_)
    clear hK K
    try simp only[rgS]
    have HP:Hid (Pack wr (w3.alloc litZ) rb s x q p m (.agg #[.int .i64 x0,.int .i64 x1,.string x2,.slice A x3 c9,.slice K9 x4 d9]) w3.heap.size):=Lib.hid ⟨HG3.out.trans (World.grownBy_alloc w3 litZ _),Blk.grownN HR3.out (World.grownBy_alloc w3 litZ none),RepS.keeps (Keeps.grown (World.grownBy_alloc w3 litZ none) (fun b _ e=>by cases e)) (fun _ h _=>h) _ _ HX.out,heap_alloc_new w3 litZ,HQ.out.1,HQ.out.2⟩
    clear HG3 HR3 HX HQ m2 m3 m5 n2 n3 n5 hH17 hH18 hH20
    generalize w3.heap.size=lb at HP⊢
    generalize w3.alloc litZ=w4 at HP⊢
    revert HP;revert lb;revert w4;revert q;revert x0;revert x1;revert x2;revert x3;revert x4;revert A;revert c9;revert K9;revert d9
    exact key.out
   refine AllReadyH.cons rfl (fun K hK=> ?_) AllReadyH.nil
   go_simp
   have n2:(w3.alloc litZ).cell? ⟨W.heap.size,0,none⟩=some (.pointer (some ⟨rb,0,none⟩)):=zaZ k2 (HG3.out.trans (World.grownBy_alloc w3 litZ (some rb))) (by intro e;injection e with e<;>omega)
   have n3:(w3.alloc litZ).cell? ⟨W.heap.size+1,0,none⟩=some (.int .i64 dep):=zaZ k3 (HG3.out.trans (World.grownBy_alloc w3 litZ (some rb))) (by intro e;injection e with e<;>omega)
   have n5:(w3.alloc litZ).cell? ⟨W.heap.size+3,3,none⟩=some (.slice none 0 0):=zaZ k5 (HG3.out.trans (World.grownBy_alloc w3 litZ (some rb))) (by intro e;injection e with e<;>omega)
   refine hK.out _ _ ⟨n2,n3⟩ (fun hH21=> ?_)
   clear hK K
   try simp only[rgS]
   refine wpAnyH_ready (rs:=[1]) (by kernel_rfl) (by simp) ?_
   refine AllReadyH.cons rfl (fun K hK=> ?_) AllReadyH.nil
   go_simp
   refine hK.out _ _ ⟨n2,n3⟩ (fun hH22=> ?_)
   clear hK K
   try simp only[rgS]
   refine wpAnyH_take (i:=6) (v:= ?v6q23) rfl (by kernel_rfl) (by kernel_rfl) (by kernel_rfl) (fun _ _ _ h=>h) (Or.inl ⟨by rfl,?hy6q23⟩) (by assumption) ?rest6q23
   case hy6q23=>(intro w hSw;(try obtain⟨hSa,hSb⟩:=hSw);first|(go_simp;done)|(go_simp;with_reducible rfl))
   try simp only[rgS]
   have HP:Hid (Pack wr (w3.alloc litZ) rb s x q p m (.agg #[.int .i64 x0,.int .i64 x1,.string x2,.slice A x3 c9,.slice K9 x4 d9]) w3.heap.size):=Lib.hid ⟨HG3.out.trans (World.grownBy_alloc w3 litZ _),Blk.grownN HR3.out (World.grownBy_alloc w3 litZ none),RepS.keeps (Keeps.grown (World.grownBy_alloc w3 litZ none) (fun b _ e=>by cases e)) (fun _ h _=>h) _ _ HX.out,heap_alloc_new w3 litZ,HQ.out.1,HQ.out.2⟩
   clear HG3 HR3 HX HQ m2 m3 m5 n2 n3 n5 hH17 hH21 hH22
   generalize w3.heap.size=lb at HP⊢
   generalize w3.alloc litZ=w4 at HP⊢
   revert HP;revert lb;revert w4;revert q;revert x0;revert x1;revert x2;revert x3;revert x4;revert A;revert c9;revert K9;revert d9
   exact key.out
  refine AllReadyH.cons rfl (fun K hK=> ?_) AllReadyH.nil
  go_simp
  refine hK.out _ _ ⟨l2,l3⟩ (fun hH24=> ?_)
  clear hK K
  try simp only[rgS]
  refine wpAnyH_ready (rs:=[1,5]) (by kernel_rfl) (by simp) ?_
  refine AllReadyH.cons rfl (fun K hK=> ?_) ?_
  ·skip
   go_simp
   refine hK.out _ _ ⟨l2,l3⟩ (fun hH25=> ?_)
   clear hK K
   try simp only[rgS]
   refine wpAnyH_take (i:=6) (v:= ?v6q26) rfl (by kernel_rfl) (by kernel_rfl) (by kernel_rfl) (fun _ _ _ h=>h) (Or.inl ⟨by rfl,?hy6q26⟩) (by assumption) ?rest6q26
   case hy6q26=>(intro w hSw;(try obtain⟨hSa,hSb⟩:=hSw);first|(go_simp;done)|(go_simp;with_reducible rfl))
   try simp only[rgS]
   refine wpAnyH_ready (rs:=[5]) (by kernel_rfl) (by simp) ?_
   refine AllReadyH.cons rfl (fun K hK=> ?_) AllReadyH.nil
   go_simp
   go_at_call 111
   (with_reducible refine(HV.out _ (Blk.drew (Blk.grownN HI.out.rdr (World.grownBy_alloc wr litZ none))) (zaJ (World.grownBy_alloc wr litZ _))).mono ?_)
   rintro e w3 ⟨v,q,rfl,hrep,hq,hsk,hg3,hr3⟩
   obtain⟨vk,A,c9,rfl, -,⟨K9,d9,rfl, -, -⟩, -, -⟩:=hrep.open
   obtain⟨x0,hx0⟩: ∃a,a=x.kind:=⟨_,rfl⟩
   obtain⟨x1,hx1⟩: ∃a,a=x.n:=⟨_,rfl⟩
   obtain⟨x2,hx2⟩: ∃a,a=x.s:=⟨_,rfl⟩
   obtain⟨x3,hx3⟩: ∃a,a=x.l.length:=⟨_,rfl⟩
   obtain⟨x4,hx4⟩: ∃a,a=x.k.length:=⟨_,rfl⟩
   rw[←hx0,←hx1,←hx2,←hx3,←hx4]at hrep⊢
   clear hx0 hx1 hx2 hx3 hx4
   have HG3:=Lib.hid ((zaJ (World.grownBy_alloc wr litZ _)).trans hg3)
   have HX:Hid (RepS w3 (fun b=>wr.heap.size≤b) x (.agg #[.int .i64 x0,.int .i64 x1,.string x2,.slice A x3 c9,.slice K9 x4 d9])):=Lib.hid (RepS.keeps (Keeps.refl _ w3) (fun b (h:_≤b) _=>show wr.heap.size≤b from Nat.le_trans (World.grownBy.size (row:=some rb) (zaJ (World.grownBy_alloc wr litZ _))) h) _ _ hrep)
   have HQ:=Lib.hid (And.intro hq hsk)
   have HR3:=Lib.hid hr3
   have HLB:Hid (w3.heap[wr.heap.size]? =some litZ):=Lib.hid ((hg3.block wr.heap.size (by simp) (by intro e;injection e with e<;>omega)).trans (heap_alloc_new wr litZ))
   clear hrep hq hsk hg3 hr3
   have m2:(w3).cell? ⟨W.heap.size,0,none⟩=some (.pointer (some ⟨rb,0,none⟩)):=zaZ k2 HG3.out (by intro e;injection e with e<;>omega)
   have m3:(w3).cell? ⟨W.heap.size+1,0,none⟩=some (.int .i64 dep):=zaZ k3 HG3.out (by intro e;injection e with e<;>omega)
   have m5:(w3).cell? ⟨W.heap.size+3,3,none⟩=some (.slice none 0 0):=zaZ k5 HG3.out (by intro e;injection e with e<;>omega)
   refine hK.out _ _ ⟨m2,m3⟩ (fun hH27=> ?_)
   clear hK K
   try simp only[rgS]
   have HP:Hid (Pack wr w3 rb s x q p m (.agg #[.int .i64 x0,.int .i64 x1,.string x2,.slice A x3 c9,.slice K9 x4 d9]) wr.heap.size):=Lib.hid ⟨HG3.out,HR3.out,HX.out,HLB.out,HQ.out.1,HQ.out.2⟩
   clear HG3 HR3 HX HLB HQ m2 m3 m5 hH27
   generalize wr.heap.size=lb at HP⊢
   revert HP;revert lb;revert w3;revert q;revert x0;revert x1;revert x2;revert x3;revert x4;revert A;revert c9;revert K9;revert d9
   exact key.out
  refine AllReadyH.cons rfl (fun K hK=> ?_) AllReadyH.nil
  go_simp
  go_at_call 111
  (with_reducible refine(HV.out _ (Blk.drew (Blk.grownN HI.out.rdr (World.grownBy_alloc wr litZ none))) (zaJ (World.grownBy_alloc wr litZ _))).mono ?_)
  rintro e w3 ⟨v,q,rfl,hrep,hq,hsk,hg3,hr3⟩
  obtain⟨vk,A,c9,rfl, -,⟨K9,d9,rfl, -, -⟩, -, -⟩:=hrep.open
  obtain⟨x0,hx0⟩: ∃a,a=x.kind:=⟨_,rfl⟩
  obtain⟨x1,hx1⟩: ∃a,a=x.n:=⟨_,rfl⟩
  obtain⟨x2,hx2⟩: ∃a,a=x.s:=⟨_,rfl⟩
  obtain⟨x3,hx3⟩: ∃a,a=x.l.length:=⟨_,rfl⟩
  obtain⟨x4,hx4⟩: ∃a,a=x.k.length:=⟨_,rfl⟩
  rw[←hx0,←hx1,←hx2,←hx3,←hx4]at hrep⊢
  clear hx0 hx1 hx2 hx3 hx4
  have HG3:=Lib.hid ((zaJ (World.grownBy_alloc wr litZ _)).trans hg3)
  have HX:Hid (RepS w3 (fun b=>wr.heap.size≤b) x (.agg #[.int .i64 x0,.int .i64 x1,.string x2,.slice A x3 c9,.slice K9 x4 d9])):=Lib.hid (RepS.keeps (Keeps.refl _ w3) (fun b (h:_≤b) _=>show wr.heap.size≤b from Nat.le_trans (World.grownBy.size (row:=some rb) (zaJ (World.grownBy_alloc wr litZ _))) h) _ _ hrep)
  have HQ:=Lib.hid (And.intro hq hsk)
  have HR3:=Lib.hid hr3
  have HLB:Hid (w3.heap[wr.heap.size]? =some litZ):=Lib.hid ((hg3.block wr.heap.size (by simp) (by intro e;injection e with e<;>omega)).trans (heap_alloc_new wr litZ))
  clear hrep hq hsk hg3 hr3
  have m2:(w3).cell? ⟨W.heap.size,0,none⟩=some (.pointer (some ⟨rb,0,none⟩)):=zaZ k2 HG3.out (by intro e;injection e with e<;>omega)
  have m3:(w3).cell? ⟨W.heap.size+1,0,none⟩=some (.int .i64 dep):=zaZ k3 HG3.out (by intro e;injection e with e<;>omega)
  have m5:(w3).cell? ⟨W.heap.size+3,3,none⟩=some (.slice none 0 0):=zaZ k5 HG3.out (by intro e;injection e with e<;>omega)
  refine hK.out _ _ ⟨m2,m3⟩ (fun hH28=> ?_)
  clear hK K
  try simp only[rgS]
  refine wpAnyH_ready (rs:=[1]) (by kernel_rfl) (by simp) ?_
  refine AllReadyH.cons rfl (fun K hK=> ?_) AllReadyH.nil
  go_simp
  refine hK.out _ _ ⟨m2,m3⟩ (fun hH29=> ?_)
  clear hK K
  try simp only[rgS]
  refine wpAnyH_take (i:=6) (v:= ?v6q30) rfl (by kernel_rfl) (by kernel_rfl) (by kernel_rfl) (fun _ _ _ h=>h) (Or.inl ⟨by rfl,?hy6q30⟩) (by assumption) ?rest6q30
  case hy6q30=>(intro w hSw;(try obtain⟨hSa,hSb⟩:=hSw);first|(go_simp;done)|(go_simp;with_reducible rfl))
  try simp only[rgS]
  have HP:Hid (Pack wr w3 rb s x q p m (.agg #[.int .i64 x0,.int .i64 x1,.string x2,.slice A x3 c9,.slice K9 x4 d9]) wr.heap.size):=Lib.hid ⟨HG3.out,HR3.out,HX.out,HLB.out,HQ.out.1,HQ.out.2⟩
  clear HG3 HR3 HX HLB HQ m2 m3 m5 hH28 hH29
  generalize wr.heap.size=lb at HP⊢
  revert HP;revert lb;revert w3;revert q;revert x0;revert x1;revert x2;revert x3;revert x4;revert A;revert c9;revert K9;revert d9
  exact key.out
 intro d9 K9 c9 A x4 x3 x2 x1 x0 q w4 lb HP
 have HM:=Lib.hid (HI.out.moved HP.out.1 HP.out.2.1)
 have hs4:W.heap.size+4≤w4.heap.size:=HM.out.sz
 have m2:(w4).cell? ⟨W.heap.size,0,none⟩=some (.pointer (some ⟨rb,0,none⟩)):=zaZ k2 HP.out.1 (by intro e;injection e with e<;>omega)
 have m3:(w4).cell? ⟨W.heap.size+1,0,none⟩=some (.int .i64 dep):=zaZ k3 HP.out.1 (by intro e;injection e with e<;>omega)
 have m5:(w4).cell? ⟨W.heap.size+3,3,none⟩=some (.slice none 0 0):=zaZ k5 HP.out.1 (by intro e;injection e with e<;>omega)
 have hH0:w4.cell? ⟨W.heap.size,0,none⟩=some (.pointer (some ⟨rb,0,none⟩))∧w4.cell? ⟨W.heap.size+1,0,none⟩=some (.int .i64 dep):=⟨m2,m3⟩
 refine wpAnyH_ready (rs:=[8]) (by kernel_rfl) (by simp) ?_
 refine AllReadyH.cons rfl (fun K hK=> ?_) AllReadyH.nil
 refine step_append_lies _ (by rfl) _ _ _ (by rfl) (W.heap.size+4) 27 iJ (.agg zeros5.toArray) 5 80 Tryz.underlying23 hJ hJ0 hJ1 hJ2 rfl (by omega) (.slice none 0 0) 0 [] (by rfl) HM.out.own ⟨lb,0,none⟩ 1 1 [.int .i64 0,.int .i64 0,.string ⟨#[]⟩,.slice none 0 0,.slice none 0 0] (by rfl) (by rfl) (World.news_of_block (cs:= #[.int .i64 0,.int .i64 0,.string ⟨#[]⟩,.slice none 0 0,.slice none 0 0]) (t:=27) (fr:=(0,0)) HP.out.2.2.2.1) (by simp[Value.oneCell']) (by omega) (by unfold maxLen;omega) (by omega) (by omega) w4.heap.size rfl ?_
 intro g cap w5 hown hgrow hat hlt
 have hgB:W.heap.size+4≤g:=(hown.lt g rfl).1
 have HADD:=Lib.hid (HI.out.add HP.out.1 HP.out.2.1 HP.out.2.2.1 hgrow hown (hat.imp_right (fun h=>Nat.le_of_eq h.symm)))
 have e0:w5.cell? ⟨g,0,none⟩=some (.int .i64 0):=by have:=hown.cells rfl (0) (.int .i64 0) (rfl);rwa [Addr.add_mid,Nat.zero_add]at this
 have e1:w5.cell? ⟨g,1,none⟩=some (.int .i64 0):=by have:=hown.cells rfl (1) (.int .i64 0) (rfl);rwa [Addr.add_mid,Nat.zero_add]at this
 have e2:w5.cell? ⟨g,2,none⟩=some (.string ⟨#[]⟩):=by have:=hown.cells rfl (2) (.string ⟨#[]⟩) (rfl);rwa [Addr.add_mid,Nat.zero_add]at this
 have e3:w5.cell? ⟨g,3,none⟩=some (.slice none 0 0):=by have:=hown.cells rfl (3) (.slice none 0 0) (rfl);rwa [Addr.add_mid,Nat.zero_add]at this
 have e4:w5.cell? ⟨g,4,none⟩=some (.slice none 0 0):=by have:=hown.cells rfl (4) (.slice none 0 0) (rfl);rwa [Addr.add_mid,Nat.zero_add]at this
 have hfz: ∀o,w5.frozen? ⟨g,o,none⟩=false:=fun o=>zcv hown o
 obtain⟨z0,z1,z2,z3,z4⟩:=And.intro (hfz (0)) (And.intro (hfz (1)) (And.intro (hfz (2)) (And.intro (hfz (3)) (hfz (4)))))
 have hin:(0:Int)<(0:Int)+1:=by omega
 have hno: ∀k,k<W.heap.size+4→some k≠(.slice none 0 0:Value).ownBlock:=fun k hk e=>by have:=(HI.out.own.lt k e.symm).1;omega
 have o2:=zaZ m2 hgrow (hno W.heap.size (by omega))
 have o3:=zaZ m3 hgrow (hno (W.heap.size+1) (by omega))
 have o5:=zaZ m5 hgrow (hno (W.heap.size+3) (by omega))
 have FZ:=Lib.hid (HM.out.c5.grown hgrow (hno _ (by omega)))
 have oz:w5.frozen? ⟨W.heap.size+3,3,none⟩=false:=FZ.out.frozen 3
 have hne5: ¬W.heap.size+3=g:=by omega
 have hne5': ¬g=W.heap.size+3:=by omega
 have OL:Hid (w5.grownBy (((((w5.setCell ⟨g,0,none⟩ (.int .i64 x0)).setCell ⟨g,1,none⟩ (.int .i64 x1)).setCell ⟨g,2,none⟩ (.string x2)).setCell ⟨g,3,none⟩ (.slice A x3 c9)).setCell ⟨g,4,none⟩ (.slice K9 x4 d9)) (some g)):=Lib.hid (znm (c0:= .int .i64 x0) (c1:= .int .i64 x1) (c2:= .string x2) (c3:= .slice A x3 c9) (c4:= .slice K9 x4 d9) (n:=0) (xs:=[]) rfl hown).2
 clear hown hgrow hat hlt hfz hno
 refine hK.out _ _ ⟨o2,o3⟩ (fun hHeld=> ?_)
 clear hK K
 try simp only[rgS]
 refine wpAnyH_take (i:=9) (v:= ?v9q31) rfl (by kernel_rfl) (by kernel_rfl) (by kernel_rfl) (fun _ _ _ h=>h) (Or.inl ⟨by rfl,?hy9q31⟩) (by assumption) ?rest9q31
 case hy9q31=>(intro w hSw;(try obtain⟨hSa,hSb⟩:=hSw);first|(go_simp;done)|(go_simp;with_reducible rfl))
 try simp only[rgS]
 refine wpAnyH_take (i:=11) (v:= ?v11q32) rfl (by kernel_rfl) (by kernel_rfl) (by kernel_rfl) (fun _ _ _ h=>h) (Or.inl ⟨by rfl,?hy11q32⟩) (by assumption) ?rest11q32
 case hy11q32=>(intro w hSw;(try obtain⟨hSa,hSb⟩:=hSw);first|(go_simp;done)|(go_simp;with_reducible rfl))
 try simp only[rgS]
 refine wpAnyH_ready (rs:=[10,12]) (by kernel_rfl) (by simp) ?_
 refine AllReadyH.cons rfl (fun K hK=> ?_) ?_
 ·skip
  go_simp
  refine hK.out _ _ ⟨zaZ o2 OL.out (by intro e;injection e with e<;>omega),zaZ o3 OL.out (by intro e;injection e with e<;>omega)⟩ (fun hH1=> ?_)
  clear hK K
  obtain⟨w6,hw6⟩: ∃w,w=(((((w5.setCell ⟨g,0,none⟩ (.int .i64 x0)).setCell ⟨g,1,none⟩ (.int .i64 x1)).setCell ⟨g,2,none⟩ (.string x2)).setCell ⟨g,3,none⟩ (.slice A x3 c9)).setCell ⟨g,4,none⟩ (.slice K9 x4 d9)):=⟨_,rfl⟩
  have HW6:=Lib.hid hw6
  have OL6:Hid (w5.grownBy w6 (some g)):=Lib.hid (by rw[hw6];exact OL.out)
  rw[←hw6]at hH1⊢
  clear hw6 e0 e1 e2 e3 e4 z0 z1 z2 z3 z4 oz
  have q2:=zaZ o2 OL6.out (by intro e;injection e with e<;>omega)
  have q3:=zaZ o3 OL6.out (by intro e;injection e with e<;>omega)
  have q5:=zaZ o5 OL6.out (by intro e;injection e with e<;>omega)
  have qz:w6.frozen? ⟨W.heap.size+3,3,none⟩=false:=(Blk.grown FZ.out OL6.out (by intro e;injection e with e<;>omega)).frozen 3
  try simp only[rgS]
  refine wpAnyH_ready (rs:=[12]) (by kernel_rfl) (by simp) ?_
  refine AllReadyH.cons rfl (fun K hK=> ?_) AllReadyH.nil
  go_simp
  refine hK.out _ _ ⟨zaZ q2 (zaV w6 (W.heap.size+3) 3 _) (by intro e;injection e with e<;>omega),zaZ q3 (zaV w6 (W.heap.size+3) 3 _) (by intro e;injection e with e<;>omega)⟩ (fun hH2=> ?_)
  clear hK K
  refine wpAnyH_done (by kernel_rfl) ?_ _
  go_end0
  exact⟨_,_,q,rfl,HP.out.2.2.2.2.1,HP.out.2.2.2.2.2,by rw[HW6.out];exact HADD.out⟩
 refine AllReadyH.cons rfl (fun K hK=> ?_) AllReadyH.nil
 go_simp
 refine hK.out _ _ ⟨zaZ o2 (zaV w5 (W.heap.size+3) 3 _) (by intro e;injection e with e<;>omega),zaZ o3 (zaV w5 (W.heap.size+3) 3 _) (by intro e;injection e with e<;>omega)⟩ (fun hH1=> ?_)
 clear hK K
 obtain⟨w6,hw6⟩: ∃w,w=w5.setCell ⟨W.heap.size+3,3,none⟩ (.slice (some ⟨g,0,none⟩) 1 cap):=⟨_,rfl⟩
 have HW6:=Lib.hid hw6
 rw[←hw6]at hH1⊢
 have gb:=zaV w5 (W.heap.size+3) 3 (.slice (some ⟨g,0,none⟩) 1 cap)
 rw[←hw6]at gb
 have f0:=zaZ e0 gb (by intro e;injection e with e<;>omega)
 have y0:w6.frozen? ⟨g,0,none⟩=false:=by rw[hw6,World.frozen?_setCell];exact z0
 have f1:=zaZ e1 gb (by intro e;injection e with e<;>omega)
 have y1:w6.frozen? ⟨g,1,none⟩=false:=by rw[hw6,World.frozen?_setCell];exact z1
 have f2:=zaZ e2 gb (by intro e;injection e with e<;>omega)
 have y2:w6.frozen? ⟨g,2,none⟩=false:=by rw[hw6,World.frozen?_setCell];exact z2
 have f3:=zaZ e3 gb (by intro e;injection e with e<;>omega)
 have y3:w6.frozen? ⟨g,3,none⟩=false:=by rw[hw6,World.frozen?_setCell];exact z3
 have f4:=zaZ e4 gb (by intro e;injection e with e<;>omega)
 have y4:w6.frozen? ⟨g,4,none⟩=false:=by rw[hw6,World.frozen?_setCell];exact z4
 have q2:=zaZ o2 gb (by intro e;injection e with e<;>omega)
 have q3:=zaZ o3 gb (by intro e;injection e with e<;>omega)
 have O2:=Lib.hid o2
 have O3:=Lib.hid o3
 clear hw6 gb e0 e1 e2 e3 e4 z0 z1 z2 z3 z4 oz o2 o3 o5
 have hst:Hid ((((((w6.setCell ⟨g,0,none⟩ (.int .i64 x0)).setCell ⟨g,1,none⟩ (.int .i64 x1)).setCell ⟨g,2,none⟩ (.string x2)).setCell ⟨g,3,none⟩ (.slice A x3 c9)).setCell ⟨g,4,none⟩ (.slice K9 x4 d9))=(((((w5.setCell ⟨g,0,none⟩ (.int .i64 x0)).setCell ⟨g,1,none⟩ (.int .i64 x1)).setCell ⟨g,2,none⟩ (.string x2)).setCell ⟨g,3,none⟩ (.slice A x3 c9)).setCell ⟨g,4,none⟩ (.slice K9 x4 d9)).setCell ⟨W.heap.size+3,3,none⟩ (.slice (some ⟨g,0,none⟩) 1 cap)):=Lib.hid (by rw[HW6.out];exact set_far w5 hne5 _ _ _ _ _ _)
 try simp only[rgS]
 refine wpAnyH_ready (rs:=[10]) (by kernel_rfl) (by simp) ?_
 refine AllReadyH.cons rfl (fun K hK=> ?_) AllReadyH.nil
 go_simp
 refine hK.out _ _ (by rw[hst.out];exact⟨zaZ (zaZ O2.out OL.out (by intro e;injection e with e<;>omega)) (zaV _ (W.heap.size+3) 3 _) (by intro e;injection e with e<;>omega),zaZ (zaZ O3.out OL.out (by intro e;injection e with e<;>omega)) (zaV _ (W.heap.size+3) 3 _) (by intro e;injection e with e<;>omega)⟩) (fun hH2=> ?_)
 clear hK K
 refine wpAnyH_done (by kernel_rfl) ?_ _
 go_end0
 exact⟨_,_,q,rfl,HP.out.2.2.2.2.1,HP.out.2.2.2.2.2,by rw[hst.out];exact HADD.out⟩
end Go.Proofs.YtjfgmgkhinehaaaGreatDoor
