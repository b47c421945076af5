
import Derived.Test.YtceddodfddlncaaGreatDoorJb02
import Derived.Test.YtceddodfddlncaaGreatDoorJb15
set_option maxRecDepth 100000
set_option maxHeartbeats 16000000
set_option linter.all false
namespace Go.Proofs.YtceddodfddlncaaGreatDoor
open Go Go.RowKit
def GW (w:World) (rb:Nat):Prop:=Marks w∧ErrTab w∧rb≠6∧rb≠0
theorem GW.grown {w w':World} {rb:Nat} (h:GW w rb) (hg:w.grownBy w' (some rb)):GW w' rb:=by
 obtain⟨h1,h2,h3,h4⟩:=h
 refine⟨Blk.grown h1 hg (by intro e;injection e with e;exact h3 e.symm),?_,h3,h4⟩
 have hlt:=zaa h2
 have:=hg.block 0 hlt (by intro e;injection e with e;exact h4 e.symm)
 unfold ErrTab World.cell? at h2⊢
 simp only[this]
 exact h2
theorem zgy (s:ByteArray) (k:Nat):strL (s.extract k s.size)=(strL s).drop k:=by
 rw[zax,List.take_of_length_le (by rw[zaQ];exact Nat.le_refl _)]
theorem pre_list (l:List UInt8):Lib.hasPrefix l [92,117]=decide (atL (l.map fun b=>(b.toNat:Int)) 0=92∧atL (l.map fun b=>(b.toNat:Int)) 1=117):=by
 have key: ∀(a:UInt8) (n:Nat),n<256→((n.toUInt8==a)=decide ((a.toNat:Int)=n)):=fun a n hn=>by
  rw[Bool.eq_iff_iff,beq_iff_eq,decide_eq_true_eq]
  constructor
  ·intro h;rw[←h];simp;omega
  ·intro h;apply UInt8.toNat_inj.1;simp;omega
 match l with
 |[]=>rfl
 |[a]=>
  show((92:UInt8)==a&&List.isPrefixOf [117] [])=_
  rw[show List.isPrefixOf [(117:UInt8)] []=false from rfl,Bool.and_false]
  symm;rw[decide_eq_false_iff_not];rintro⟨_,h⟩;exact absurd h (show ¬(-1:Int)=117 by decide)
 |a::b::r=>
  show((92:UInt8)==a&&((117:UInt8)==b&&List.isPrefixOf [] r))=_
  rw[show List.isPrefixOf ([]:List UInt8) r=true by cases r<;>rfl,Bool.and_true]
  have h1:=key a 92 (by decide);have h2:=key b 117 (by decide)
  rw[show((92:UInt8)==a)=decide ((a.toNat:Int)=92)from h1,show((117:UInt8)==b)=decide ((b.toNat:Int)=117)from h2]
  rw[←Bool.decide_and];rfl
theorem pre_str (t:ByteArray):Lib.hasPrefix t.data.toList [92,117]=decide (atL (strL t) 0=92∧atL (strL t) 1=117):=pre_list _
theorem trim_str (t:ByteArray) (h:Lib.hasPrefix t.data.toList [92,117]=true):strL ⟨(Lib.trimPrefix t.data.toList [92,117]).toArray⟩=(strL t).drop 2:=by
 unfold Lib.trimPrefix
 rw[if_pos h]
 simp[strL]
theorem trim_size (t:ByteArray):(⟨(Lib.trimPrefix t.data.toList [92,117]).toArray⟩:ByteArray).size≤t.size:=by
 unfold Lib.trimPrefix
 split
 ·show(t.data.toList.drop 2).toArray.size≤_
  simp
 ·exact Nat.le_refl _
theorem zhw (s:ByteArray) (w:World) (hs:s.size≤1000000):
  Calls Tryz.prog 216 #[.string s] w fun e w'=>e= .returned (.tuple #[.int .i64 (ldL (strL s) 4 0 0).1,.int .i64 ((ldL (strL s) 4 0 0).2:Int)])∧w'=w:=(leadCode_any s w hs).mono fun _ _ (h:_∧_)=>(⟨h.1,h.2.symm⟩:_∧_)
theorem half_there {l:List Int} {i:Nat} (h: ¬(zbm l i<56320∨57343<zbm l i)):(atL l (i+6)=92∧atL l (i+7)=117)∧(ldL l 4 (i+8) 0).2=4∧zbm l i=(ldL l 4 (i+8) 0).1:=by
 rw[halfL_ld]at h⊢
 by_cases h1:atL l (i+6)=92∧atL l (i+7)=117
 ·rw[if_pos h1]at h⊢
  by_cases h2:(ldL l 4 (i+8) 0).2=4
  ·rw[if_pos h2];exact⟨h1,h2,rfl⟩
  ·rw[if_neg h2]at h;omega
 ·rw[if_neg h1]at h;omega
theorem half_none {l:List Int} {i:Nat} (h:zbm l i<56320∨57343<zbm l i) (h1:atL l (i+6)=92∧atL l (i+7)=117):(ldL l 4 (i+8) 0).1<56320∨57344≤(ldL l 4 (i+8) 0).1:=by
 have hb:=ld4_bd l (i+8)
 rw[halfL_ld,if_pos h1]at h
 by_cases h2:(ldL l 4 (i+8) 0).2=4
 ·rw[if_pos h2]at h;omega
 ·have:=hb.2.2.1 h2;omega
theorem lowHalf_yes (rb:Nat) (s:ByteArray) (i:Nat) (n:Int) (w:World) (h:Rdr w rb s (i+6:Nat) n) (hi:i+6≤s.size) (hs:s.size≤1000000) (hh: ¬(zbm (strL s) i<56320∨57343<zbm (strL s) i)):
  Calls Tryz.prog 217 #[.pointer (some ⟨rb,0,none⟩),.int .i64 (i:Int)] w fun e w'=>e= .returned (.int .i64 (zbm (strL s) i-56320))∧zcg w w' rb s (i+12:Nat) n:=by
 obtain⟨h92,h4,he⟩:=half_there hh
 have hb:=ld4_bd (strL s) (i+8)
 have HR:=Lib.hid h
 obtain⟨⟨c0,c1,c2⟩,f0,f1,f2⟩:=h.cells
 obtain⟨t,ht⟩: ∃t,t=s.extract (i+6) s.size:=⟨_,rfl⟩
 have htl:strL t=(strL s).drop (i+6):=by rw[ht,zgy]
 have hp:Lib.hasPrefix t.data.toList [92,117]=true:=by
  rw[pre_str,htl,decide_eq_true_eq,zfb,zfb];exact h92
 have htr:=trim_str t hp
 have hsz:=trim_size t
 have HCP:=Lib.hid (fun W:World=>Tryz.strings_CutPrefix t ⟨#[92,117]⟩ W)
 rw[show(⟨#[92,117]⟩:ByteArray).data.toList=[92,117]from rfl,hp]at HCP
 obtain⟨T,hT⟩: ∃T,T=(⟨(Lib.trimPrefix t.data.toList [92,117]).toArray⟩:ByteArray):=⟨_,rfl⟩
 rw[←hT]at HCP htr hsz
 have hts:t.size≤s.size:=by rw[ht];simp[ByteArray.size_extract]
 have HLC:=Lib.hid (fun W:World=>zhw T W (by omega))
 have e1:ldL (strL T) 4 0 0=ldL (strL s) 4 (i+8) 0:=by rw[htr,htl,List.drop_drop,ziy]
 rw[e1]at HLC
 rw[he]
 rw[he]at hh
 obtain⟨x,hx⟩: ∃x,x=(ldL (strL s) 4 (i+8) 0).1:=⟨_,rfl⟩
 obtain⟨y,hy⟩: ∃y,y=(((ldL (strL s) 4 (i+8) 0).2:Nat):Int):=⟨_,rfl⟩
 rw[←hx,←hy]at HLC
 rw[←hx]at hh hb⊢
 have a0:decide (x<56320)=false:=decide_eq_false (by omega)
 have a1:decide (57344≤x)=false:=decide_eq_false (by omega)
 have a2:(56320:Int)≤x:=by omega
 have a3:x≤57343:=by omega
 have b0:(0:Int)≤((i+6:Nat):Int):=by omega
 have b1:((i+6:Nat):Int)≤(s.size:Int):=by omega
 have b2:((i+6:Nat):Int).toNat=i+6:=by omega
 obtain⟨I,hI⟩: ∃I,I=i+6:=⟨_,rfl⟩
 rw[←hI]at c1 b0 b1 b2 HR ht
 have HT:=Lib.hid ht
 have HI:=Lib.hid hI
 have hI2:I≤1000000:=by omega
 clear h hx hy e1 he hh hb htl htr hT hp h92 h4 hts hsz ht hI hi
 go_enter Tryz.func217,Tryz.ntmps217
 go_wp2
 go_quiet ((go_at_call 220;rw[←HT.out];exact Calls.quiet_of_same (HCP.out _)))
 go_wp2_with(go_at_call 216;(with_reducible refine(HLC.out _).mono ?_);rintro e w' ⟨rfl,rfl⟩)
 go_ret
 refine⟨rfl,zag w _ rb 1 _,?_⟩
 have:=Rdr.goes (HR.out.drewN nq) ((i+12:Nat):Int)
 rw[show((i+12:Nat):Int)=(I:Int)+6 by have:=HI.out;omega]at this⊢
 exact this
theorem lowHalf_no (rb:Nat) (s:ByteArray) (i:Nat) (n:Int) (w:World) (h:Rdr w rb s (i+6:Nat) n) (hi:i+6≤s.size) (hs:s.size≤1000000) (hh:zbm (strL s) i<56320∨57343<zbm (strL s) i):
  Calls Tryz.prog 217 #[.pointer (some ⟨rb,0,none⟩),.int .i64 (i:Int)] w (ziJ w rb i 50):=by
 have HR:=Lib.hid h
 obtain⟨⟨c0,c1,c2⟩,f0,f1,f2⟩:=h.cells
 obtain⟨t,ht⟩: ∃t,t=s.extract (i+6) s.size:=⟨_,rfl⟩
 have htl:strL t=(strL s).drop (i+6):=by rw[ht,zgy]
 have hp:Lib.hasPrefix t.data.toList [92,117]=decide (atL (strL s) (i+6)=92∧atL (strL s) (i+7)=117):=by
  rw[pre_str,htl,zfb,zfb]
 have htr:=fun hpt=>trim_str t hpt
 have hsz:=trim_size t
 have HCP:=Lib.hid (fun W:World=>Tryz.strings_CutPrefix t ⟨#[92,117]⟩ W)
 rw[show(⟨#[92,117]⟩:ByteArray).data.toList=[92,117]from rfl]at HCP
 obtain⟨T,hT⟩: ∃T,T=(⟨(Lib.trimPrefix t.data.toList [92,117]).toArray⟩:ByteArray):=⟨_,rfl⟩
 obtain⟨P,hP⟩: ∃P,P=Lib.hasPrefix t.data.toList [92,117]:=⟨_,rfl⟩
 rw[←hT,←hP]at HCP
 rw[←hT]at htr hsz
 rw[←hP]at hp htr
 have hts:t.size≤s.size:=by rw[ht];simp[ByteArray.size_extract]
 have HLC:=Lib.hid (fun W:World=>zhw T W (by omega))
 have b0:(0:Int)≤((i+6:Nat):Int):=by omega
 have b1:((i+6:Nat):Int)≤(s.size:Int):=by omega
 have b2:((i+6:Nat):Int).toNat=i+6:=by omega
 have hbad:P=true→(ldL (strL T) 4 0 0).1<56320∨57344≤(ldL (strL T) 4 0 0).1:=fun e=>by
  rw[htr e,htl,List.drop_drop,ziy]
  rw[e]at hp
  exact half_none hh (of_decide_eq_true hp.symm)
 obtain⟨x,hx⟩: ∃x,x=(ldL (strL T) 4 0 0).1:=⟨_,rfl⟩
 obtain⟨y,hy⟩: ∃y,y=(((ldL (strL T) 4 0 0).2:Nat):Int):=⟨_,rfl⟩
 rw[←hx,←hy]at HLC
 rw[←hx]at hbad
 obtain⟨I,hI⟩: ∃I,I=i+6:=⟨_,rfl⟩
 rw[←hI]at c1 b0 b1 b2 HR ht
 have HT:=Lib.hid ht
 have hI2:I≤1000000:=by omega
 have hnot: ∀(x:Bool) (w:World),(Op.unary .not (.bool x)).run Tryz.prog w= .ok (.bool (!x)) w:=fun _ _=>rfl
 clear h hx hy hh htl htr hT hp hts hsz ht hI hi hP
 cases P with
 |false=>
  clear hbad
  go_enter Tryz.func217,Tryz.ntmps217
  go_wp2
  go_quiet ((go_at_call 220;rw[←HT.out];exact Calls.quiet_of_same (HCP.out _)))
  go_wp2_with(first|(go_at_call 216;(with_reducible refine(HLC.out _).mono ?_);rintro e w' ⟨rfl,rfl⟩)|(go_at_call 130;(with_reducible refine(zbf _ _ _).mono ?_);rintro e w' ⟨rfl,rfl⟩))
  exact⟨rfl,rfl,zbe _ _⟩
 |true=>
  rcases hbad rfl with hb|hb
  ·have a0:decide (x<56320)=true:=decide_eq_true hb
   clear hbad
   go_enter Tryz.func217,Tryz.ntmps217
   go_wp2
   go_quiet ((go_at_call 220;rw[←HT.out];exact Calls.quiet_of_same (HCP.out _)))
   go_wp2_with(first|(go_at_call 216;(with_reducible refine(HLC.out _).mono ?_);rintro e w' ⟨rfl,rfl⟩)|(go_at_call 130;(with_reducible refine(zbf _ _ _).mono ?_);rintro e w' ⟨rfl,rfl⟩))
   exact⟨rfl,rfl,zbe _ _⟩
  ·have a0:decide (x<56320)=false:=decide_eq_false (by omega)
   have a1:decide (57344≤x)=true:=decide_eq_true hb
   clear hbad
   go_enter Tryz.func217,Tryz.ntmps217
   go_wp2
   go_quiet ((go_at_call 220;rw[←HT.out];exact Calls.quiet_of_same (HCP.out _)))
   go_wp2_with(first|(go_at_call 216;(with_reducible refine(HLC.out _).mono ?_);rintro e w' ⟨rfl,rfl⟩)|(go_at_call 130;(with_reducible refine(zbf _ _ _).mono ?_);rintro e w' ⟨rfl,rfl⟩))
   exact⟨rfl,rfl,zbe _ _⟩
def EscTells (w:World) (rb:Nat) (s:ByteArray) (n:Int) (r:List Int×Nat×Int) (e:Ending) (w':World):Prop:=
 (r.2.2=0∧e= .returned (.string (toS r.1))∧zcg w w' rb s (r.2.1:Nat) n)∨(r.2.2≠0∧ziJ w rb (r.2.1:Nat) r.2.2 e w')
theorem EscTells.bad {w:World} {rb:Nat} {s:ByteArray} {n:Int} {r:List Int×Nat×Int} {e:Ending} {w':World} {l:List Int} {p:Nat} (hr:r=(l,p,50)) (h:ziJ w rb p 50 e w'):EscTells w rb s n r e w':=by
 rw[hr];exact .inr ⟨show(50:Int)≠0 by decide,h⟩
theorem EscTells.ok {w:World} {rb:Nat} {s:ByteArray} {n:Int} {r:List Int×Nat×Int} {e:Ending} {w':World} {l:List Int} {p:Nat} (hr:r=(l,p,0)) (he:e= .returned (.string (toS l))) (h:zcg w w' rb s p n):EscTells w rb s n r e w':=by
 rw[hr];exact .inl ⟨rfl,he,h⟩
theorem coded_any (rb:Nat) (s:ByteArray) (i:Nat) (n:Int) (w:World) (h:Rdr w rb s (i+2:Nat) n) (hg:GW w rb) (hi:i+1<s.size) (hs:s.size≤1000000):
  Calls Tryz.prog 204 #[.pointer (some ⟨rb,0,none⟩),.int .i64 (i:Int)] w (EscTells w rb s n (codL (strL s) i)):=by
 have HLEN:=Lib.hid (zaQ s)
 have HR:=Lib.hid h
 have HG:=Lib.hid hg
 obtain⟨⟨c0,c1,c2⟩,f0,f1,f2⟩:=h.cells
 obtain⟨t,ht⟩: ∃t,t=s.extract (i+2) s.size:=⟨_,rfl⟩
 have htl:strL t=(strL s).drop (i+2):=by rw[ht,zgy]
 have hts:t.size≤s.size:=by rw[ht];simp[ByteArray.size_extract]
 have HLC:=Lib.hid (fun W:World=>zhw t W (by omega))
 have e1:ldL (strL t) 4 0 0=ldL (strL s) 4 (i+2) 0:=by rw[htl,ziy]
 rw[e1]at HLC
 have hcod:=codL_ld (strL s) i (by rw[HLEN.out];exact hi)
 have hb:=ld4_bd (strL s) (i+2)
 have hle:=(ldL_le (strL s) 4 (i+2) 0).2 (by rw[HLEN.out];omega)
 rw[HLEN.out]at hle
 obtain⟨R,hR⟩: ∃R,R=codL (strL s) i:=⟨_,rfl⟩
 rw[←hR]at hcod⊢
 obtain⟨x,hx⟩: ∃x,x=(ldL (strL s) 4 (i+2) 0).1:=⟨_,rfl⟩
 obtain⟨y,hy⟩: ∃y,y=(ldL (strL s) 4 (i+2) 0).2:=⟨_,rfl⟩
 rw[←hx,←hy]at HLC hcod hb
 rw[←hy]at hle
 obtain⟨hb0,hb1,hb2,hb3⟩:=hb
 have b0:(0:Int)≤((i+2:Nat):Int):=by omega
 have b1:((i+2:Nat):Int)≤(s.size:Int):=by omega
 have b2:((i+2:Nat):Int).toNat=i+2:=by omega
 obtain⟨I,hI⟩: ∃I,I=i+2:=⟨_,rfl⟩
 rw[←hI]at c1 b0 b1 b2 HR ht hle
 have HT:=Lib.hid ht
 have HI:=Lib.hid hI
 have hI2:I≤1000000:=by omega
 have HCOD:=Lib.hid hcod
 clear h hg hx hy e1 htl hts ht hI hR hcod hi hb2
 by_cases h4:y≠4
 ·have HB:Hid (R=([],I+y,50)):=Lib.hid (by rw[HCOD.out,if_pos h4,HI.out])
  have hlt:(y:Int)<4:=by omega
  clear h4
  go_enter Tryz.func204,Tryz.ntmps204
  go_wp2
  go_quiet ((go_at_call 216;rw[←HT.out];exact Calls.quiet_of_same (HLC.out _)))
  go_wp2_with(go_at_call 130;(with_reducible refine(zbf _ _ _).mono ?_);rintro e w' ⟨rfl,rfl⟩)
  refine⟨rfl,EscTells.bad HB.out ⟨?_,zag w _ rb 1 _⟩⟩
  rw[show((I+y:Nat):Int)=(I:Int)+(y:Int)by omega]
 ·obtain rfl:y=4:=by omega
  have HC1:Hid (R=if 56320≤x∧x<57344 then([],i,50)else if 55296≤x∧x<56320 then(if zbm (strL s) i<56320∨57343<zbm (strL s) i then([],i,50)else(putL (65536+(x-55296)*1024+zbm (strL s) i-56320),i+12,0))else(putL x,i+6,0)):=Lib.hid (HCOD.out.trans (if_neg h4))
  clear h4
  by_cases hlo:56320≤x∧x<57344
  ·have HB:Hid (R=([],i,50)):=Lib.hid (HC1.out.trans (if_pos hlo))
   obtain⟨a0,a1⟩:=hlo
   go_enter Tryz.func204,Tryz.ntmps204
   go_wp2
   go_quiet ((go_at_call 216;rw[←HT.out];exact Calls.quiet_of_same (HLC.out _)))
   go_wp2_with(go_at_call 130;(with_reducible refine(zbf _ _ _).mono ?_);rintro e w' ⟨rfl,rfl⟩)
   exact⟨rfl,EscTells.bad HB.out ⟨rfl,zag w _ rb 1 _⟩⟩
  ·have HC2:Hid (R=if 55296≤x∧x<56320 then(if zbm (strL s) i<56320∨57343<zbm (strL s) i then([],i,50)else(putL (65536+(x-55296)*1024+zbm (strL s) i-56320),i+12,0))else(putL x,i+6,0)):=Lib.hid (HC1.out.trans (if_neg hlo))
   by_cases hhi:55296≤x∧x<56320
   ·obtain⟨a0,a1⟩:=hhi
    have a2:decide (56320≤x)=false:=decide_eq_false (by omega)
    have HC3:Hid (R=if zbm (strL s) i<56320∨57343<zbm (strL s) i then([],i,50)else(putL (65536+(x-55296)*1024+zbm (strL s) i-56320),i+12,0)):=Lib.hid (HC2.out.trans (if_pos ⟨a0,a1⟩))
    by_cases hh:zbm (strL s) i<56320∨57343<zbm (strL s) i
    ·have HB:Hid (R=([],i,50)):=Lib.hid (HC3.out.trans (if_pos hh))
     have HLH:=Lib.hid (fun(W:World) (hr:Rdr W rb s (i+6:Nat) n)=>lowHalf_no rb s i n W hr (by have:=HI.out;omega) hs hh)
     clear hh hlo
     go_enter Tryz.func204,Tryz.ntmps204
     go_wp2
     go_quiet ((go_at_call 216;rw[←HT.out];exact Calls.quiet_of_same (HLC.out _)))
     have hr6:Rdr ((w.drewN nq).setCell ⟨rb,1,none⟩ (.int .i64 ((I:Int)+4))) rb s (i+6:Nat) n:=by
      rw[show((i+6:Nat):Int)=(I:Int)+4 by have:=HI.out;omega];exact Rdr.goes (HR.out.drewN nq) _
     have HR6:=Lib.hid (HLH.out _ hr6)
     clear hr6
     go_wp2_with(go_at_call 217;(with_reducible refine HR6.out.mono ?_);rintro e w2 ⟨rfl,hgr⟩;have HG2:=Lib.hid hgr;clear hgr)
     exact⟨rfl,EscTells.bad HB.out ⟨rfl,(zag w _ rb 1 _).trans HG2.out⟩⟩
    ·have HB:Hid (R=(putL (65536+(x-55296)*1024+zbm (strL s) i-56320),i+12,0)):=Lib.hid (HC3.out.trans (if_neg hh))
     have HLH:=Lib.hid (fun(W:World) (hr:Rdr W rb s (i+6:Nat) n)=>lowHalf_yes rb s i n W hr (by have:=HI.out;omega) hs hh)
     have hh0:56320≤zbm (strL s) i:=by omega
     have hh1:zbm (strL s) i≤57343:=by omega
     obtain⟨y,hy⟩: ∃y,y=zbm (strL s) i:=⟨_,rfl⟩
     rw[←hy]at HLH HB hh0 hh1
     clear hh hlo hy
     go_enter Tryz.func204,Tryz.ntmps204
     go_wp2
     go_quiet ((go_at_call 216;rw[←HT.out];exact Calls.quiet_of_same (HLC.out _)))
     have hr6:Rdr ((w.drewN nq).setCell ⟨rb,1,none⟩ (.int .i64 ((I:Int)+4))) rb s (i+6:Nat) n:=by
      rw[show((i+6:Nat):Int)=(I:Int)+4 by have:=HI.out;omega];exact Rdr.goes (HR.out.drewN nq) _
     have HR6:=Lib.hid (HLH.out _ hr6)
     have HGW:=Lib.hid (HG.out.grown (zag w nq rb 1 (.int .i64 ((I:Int)+4))))
     have HGS:=Lib.hid (zag w nq rb 1 (.int .i64 ((I:Int)+4)))
     clear hr6
     go_wp2_with(first|(go_at_call 217;(with_reducible refine HR6.out.mono ?_);rintro e w2 ⟨rfl,hgr,hr2⟩;have HG2:=Lib.hid (HGS.out.trans hgr);have HR2:=Lib.hid hr2;have HPUT:=Lib.hid (fun v=>put_any v w2 (HGW.out.grown hgr).1);clear hgr hr2)|(go_at_call 218;(with_reducible refine(HPUT.out _).mono ?_);rintro e w3 ⟨rfl,hb3⟩;have HB3:=Lib.hid hb3;clear hb3))
     go_ret
     have HB2:Hid (R=(putL (65536+(x-55296)*1024+(y-56320)),i+12,0)):=Lib.hid (by rw[show 65536+(x-55296)*1024+(y-56320)=65536+(x-55296)*1024+y-56320 by omega];exact HB.out)
     exact EscTells.ok HB2.out rfl ⟨HG2.out.trans (zaX HB3.out _),Blk.below HR2.out HB3.out HR2.out.lt⟩
   ·have HB:Hid (R=(putL x,i+6,0)):=Lib.hid (HC2.out.trans (if_neg hhi))
    have hx:x<55296∨57344≤x:=by omega
    obtain⟨A,B,hA,hB,hAB⟩: ∃A B:Bool,decide (56320≤x)=A∧decide (55296≤x)=B∧((A=false∧B=false)∨(A=true∧B=true∧decide (x<57344)=false∧decide (x<56320)=false)):=by
     refine⟨_,_,rfl,rfl,?_⟩
     rcases hx with hx|hx
     ·exact .inl ⟨decide_eq_false (by omega),decide_eq_false (by omega)⟩
     ·exact .inr ⟨decide_eq_true (by omega),decide_eq_true (by omega),decide_eq_false (by omega),decide_eq_false (by omega)⟩
    clear hlo hhi hx
    rcases hAB with⟨rfl,rfl⟩|⟨rfl,rfl,hC,hD⟩
    all_goals
     go_enter Tryz.func204,Tryz.ntmps204
     go_wp2
     go_quiet ((go_at_call 216;rw[←HT.out];exact Calls.quiet_of_same (HLC.out _)))
     have hr6:Rdr ((w.drewN nq).setCell ⟨rb,1,none⟩ (.int .i64 ((I:Int)+4))) rb s (i+6:Nat) n:=by
      rw[show((i+6:Nat):Int)=(I:Int)+4 by have:=HI.out;omega];exact Rdr.goes (HR.out.drewN nq) _
     have HR6:=Lib.hid hr6
     have HPUT:=Lib.hid (fun v=>put_any v _ (HG.out.grown (zag w nq rb 1 (.int .i64 ((I:Int)+4)))).1)
     clear hr6
     go_wp2_with(go_at_call 218;(with_reducible refine(HPUT.out _).mono ?_);rintro e w3 ⟨rfl,hb3⟩;have HB3:=Lib.hid hb3;clear hb3)
     go_ret
     exact EscTells.ok HB.out rfl ⟨(zag w _ rb 1 _).trans (zaX HB3.out _),Blk.below HR6.out HB3.out HR6.out.lt⟩
theorem beq_neI {a b:Int} (h:a≠b):(a==b)=false∧(a !=b)=true:=by
 have:(a==b)=false:=by rw[beq_eq_false_iff_ne];exact h
 exact⟨this,by rw[bne,this];rfl⟩
theorem plainL_ah (l:List Int) (i:Nat):zay (ahL l i)=zay (atL l i):=by
 unfold ahL;split
 ·rename_i h;rw[h];decide
 ·rfl
theorem toS_ne {l:List Int} (h:l≠[]):((toS l).toList==[])=false:=by
 rw[beq_eq_false_iff_ne]
 intro e
 refine h ?_
 have h2:(toS l).size=0:=by rw[ByteArray.toList_eq]at e;exact congrArg List.length e
 rw[zcm]at h2
 exact List.eq_nil_of_length_eq_zero h2
theorem rdr_cast {w:World} {rb:Nat} {s:ByteArray} {i j n:Int} (h:Rdr w rb s i n) (e:i=j):Rdr w rb s j n:=e▸h
theorem EscTells.after {w w1 w2:World} {rb:Nat} {s:ByteArray} {n:Int} {r:List Int×Nat×Int} {e:Ending} (h1:w.grownBy w1 (some rb)) (h:EscTells w1 rb s n r e w2):EscTells w rb s n r e w2:=
 h.imp (fun h=>⟨h.1,h.2.1,h1.trans h.2.2.1,h.2.2.2⟩) (fun h=>⟨h.1,h.2.1,h1.trans h.2.2⟩)
theorem EscTells.cases {w:World} {rb:Nat} {s:ByteArray} {n:Int} {r:List Int×Nat×Int} {e:Ending} {w':World} (h:EscTells w rb s n r e w'):(r.2.2=0∧e= .returned (.string (toS r.1))∧zcg w w' rb s (r.2.1:Nat) n)∨(r.2.2≠0∧e= .panicked (flt (r.2.1:Nat) r.2.2)∧w.grownBy w' (some rb)):=h
theorem escaped_any (rb:Nat) (s:ByteArray) (i:Nat) (n:Int) (w:World) (h:Rdr w rb s i n) (hg:GW w rb) (hi:i<s.size) (hs:s.size≤1000000):
  Calls Tryz.prog 190 #[.pointer (some ⟨rb,0,none⟩)] w (EscTells w rb s n (escL (strL s) i)):=by
 have HLEN:=Lib.hid (zaQ s)
 have HR:=Lib.hid h
 have HG:=Lib.hid hg
 obtain⟨⟨c0,c1,c2⟩,f0,f1,f2⟩:=h.cells
 have hr1:Rdr (w.setCell ⟨rb,1,none⟩ (.int .i64 ((i:Int)+1))) rb s (i+1:Nat) n:=Rdr.goes h _
 have HR1:=Lib.hid hr1
 have HA:=Lib.hid (zbi rb s (i+1) n _ hr1 hi hs)
 have hb:=zmf s (i+1)
 obtain⟨R,hR⟩: ∃R,R=escL (strL s) i:=⟨_,rfl⟩
 have hesc:R=if atL (strL s) (i+1)≠117 then(if zay (ahL (strL s) (i+1))=[]then([],i+1,50)else(zay (ahL (strL s) (i+1)),i+2,0))else codL (strL s) i:=by rw[hR,plainL_ah];rfl
 rw[←hR]
 clear h hg hr1 hR
 by_cases hu:atL (strL s) (i+1)=117
 ·have hlt:i+1<s.size:=by rw[←HLEN.out];exact zbZ (by omega)
  have HE:Hid (R=codL (strL s) i):=Lib.hid (hesc.trans (if_neg (fun h=>h hu)))
  rw[(zff (by decide)).2 hu]at HA
  have HCO:=Lib.hid (fun(W:World) (hr:Rdr W rb s (i+2:Nat) n) (hg:GW W rb)=>coded_any rb s i n W hr hg hlt hs)
  clear hesc hu hb
  rw[HE.out]
  clear HE
  go_enter Tryz.func190,Tryz.ntmps190
  go_wp2_with(go_at_call 160;(with_reducible refine HA.out.mono ?_);rintro e w' ⟨rfl,q,rfl⟩)
  refine(HCO.out _ (rdr_cast (Rdr.goes (HR1.out.drewN q) _) (by omega)) (HG.out.grown ((zaV w rb 1 _).trans (zag _ q rb 1 _)))).mono ?_
  intro e w2 ht
  obtain⟨C,hC⟩: ∃C,C=codL (strL s) i:=⟨_,rfl⟩
  rw[←hC]at ht
  have HT:=Lib.hid (ht.after ((zaV w rb 1 _).trans (zag _ q rb 1 _)))
  rcases ht.cases with⟨_,rfl,_⟩|⟨_,rfl,_⟩
  ·clear ht
   go_wp2
   go_ret
   rw[←hC]
   exact HT.out
  ·clear ht
   go_wp2
   rw[←hC]
   exact⟨rfl,HT.out⟩
 ·have hu1:ahL (strL s) (i+1)≠117:=zme (by decide) hu
  have HE:Hid (R=if zay (ahL (strL s) (i+1))=[]then([],i+1,50)else(zay (ahL (strL s) (i+1)),i+2,0)):=Lib.hid (hesc.trans (if_pos hu))
  obtain⟨x,hx⟩: ∃x,x=ahL (strL s) (i+1):=⟨_,rfl⟩
  rw[←hx]at HA hb HE hu1
  have HS:=Lib.hid (fun W:World=>short_any x W hb.1 hb.2)
  obtain⟨n117,_⟩:=beq_neI hu1
  clear hesc hu hu1 hb hx HR
  by_cases hp:zay x=[]
  ·have HB:Hid (R=([],i+1,50)):=Lib.hid (HE.out.trans (if_pos hp))
   rw[hp]at HS
   clear hp HE
   go_enter Tryz.func190,Tryz.ntmps190
   go_wp2_with(first|(go_at_call 160;(with_reducible refine HA.out.mono ?_);rintro e w' ⟨rfl,q,rfl⟩)|(go_at_call 205;(with_reducible refine(HS.out _).mono ?_);rintro e w' ⟨rfl,rfl⟩;rw[show toS []=(⟨#[]⟩:ByteArray)from rfl])|(go_at_call 130;(with_reducible refine(zbf _ _ _).mono ?_);rintro e w' ⟨rfl,rfl⟩))
   exact⟨rfl,EscTells.bad HB.out ⟨by rw[show((i+1:Nat):Int)=(i:Int)+1 by omega],(zaV w rb 1 _).trans (zbe q _)⟩⟩
  ·have HB:Hid (R=(zay x,i+2,0)):=Lib.hid (HE.out.trans (if_neg hp))
   have hne:=toS_ne hp
   obtain⟨P,hP⟩: ∃P,P=toS (zay x):=⟨_,rfl⟩
   rw[←hP]at HS hne
   have HP:=Lib.hid hP
   clear hp HE hP
   go_enter Tryz.func190,Tryz.ntmps190
   go_wp2_with(first|(go_at_call 160;(with_reducible refine HA.out.mono ?_);rintro e w' ⟨rfl,q,rfl⟩)|(go_at_call 205;(with_reducible refine(HS.out _).mono ?_);rintro e w' ⟨rfl,rfl⟩))
   go_ret
   exact EscTells.ok HB.out (by rw[←HP.out];rfl) ⟨(zaV w rb 1 _).trans (zag _ q rb 1 _),rdr_cast (Rdr.goes (HR1.out.drewN q) _) (by omega)⟩
def goI {α:Type} (l:List Int) (c:Int) (step:Nat→Int→α→(Nat×Int)⊕(Nat×Int×α)):Nat→Nat→Int→α→(Nat×Int)⊕(Nat×Int×α)
 |0,i,_,_=> .inl (i,50)
 |f+1,i,left,st=>match step i left st with
  | .inl e=> .inl e
  | .inr (j,left',st')=>if atL l j=44 then goI l c step f (j+1) left' st' else if atL l j=c then .inr (j+1,left',st')else .inl (j,50)
structure ItemAsk {α:Type} (s:ByteArray) (rb g:Nat) (caps:Array Value) (step:Nat→Int→α→(Nat×Int)⊕(Nat×Int×α)) (Inv:World→Nat→Int→α→Prop) (R:World→Prop):Prop where
 rdr: ∀w i left st,Inv w i left st→Rdr w rb s i (256-left)
 left: ∀w i left st,Inv w i left st→0≤left∧left≤256∧i≤s.size
 moved: ∀w w2 i k left st,Inv w i left st→k≤s.size→w.grownBy w2 (some rb)→Rdr w2 rb s (k:Nat) (256-left)→Inv w2 k left st
 gone: ∀w w2 i left st,Inv w i left st→w.grownBy w2 (some rb)→R w2
 more: ∀i left st j left' st',i≤s.size→0≤left→left≤256→step i left st= .inr (j,left',st')→i<j∧j≤s.size
 bad: ∀w i left st p er,Inv w i left st→step i left st= .inl (p,er)→Calls Tryz.prog g caps w (fun e w'=>e= .panicked (flt (p:Nat) er)∧R w')
 ok: ∀w i left st j left' st',Inv w i left st→step i left st= .inr (j,left',st')→Calls Tryz.prog g caps w (fun e w'=>e= .returned (.tuple #[])∧ ∃q,q≤s.size∧zaW (strL s) q=j∧Inv w' q left' st')
def ItemsTell {α:Type} (Inv:World→Nat→Int→α→Prop) (R:World→Prop) (r:(Nat×Int)⊕(Nat×Int×α)) (e:Ending) (w':World):Prop:=
 match r with
 | .inl (p,er)=>e= .panicked (flt (p:Nat) er)∧R w'
 | .inr (j,left,st)=>e= .returned (.tuple #[])∧Inv w' j left st
theorem zlz (rb:Nat) (s:ByteArray) (i n dep c:Int) (f:Value) (w:World) (h:Rdr w rb s i n) (hd:8<dep) (hd2:dep≤9):
  Calls Tryz.prog 191 #[.pointer (some ⟨rb,0,none⟩),.int .i64 dep,.int .u8 c,f] w (ziJ w rb i 51):=by
 obtain⟨⟨c0,c1,c2⟩,f0,f1,f2⟩:=h.cells
 clear h
 go_enter Tryz.func191,Tryz.ntmps191
 go_wp2_with(go_at_call 130;(with_reducible refine(zbf _ _ _).mono ?_);rintro e w' ⟨rfl,rfl⟩)
 exact⟨rfl,rfl,zaY _ _⟩
theorem items_any {α:Type} (s:ByteArray) (rb g:Nat) (caps:Array Value) (step:Nat→Int→α→(Nat×Int)⊕(Nat×Int×α)) (Inv:World→Nat→Int→α→Prop) (R:World→Prop) (ha:ItemAsk s rb g caps step Inv R)
  (eg: ∀args w,(callFunc g args).run Tryz.prog w= .ok (.enter g args) w) (dep c:Int) (hd:0≤dep∧dep≤8) (hc0:0<c) (hc:c≠44) (i:Nat) (left:Int) (st:α) (w:World) (h:Inv w i left st) (hi:i<s.size) (hs:s.size≤100000):
  Calls Tryz.prog 191 #[.pointer (some ⟨rb,0,none⟩),.int .i64 dep,.int .u8 c,.func (.func g) #[] caps] w
   (ItemsTell Inv R (if atL (strL s) (zaW (strL s) (i+1))=c then .inr (zaW (strL s) (i+1)+1,left,st)else goI (strL s) c step (s.size+1) (zaW (strL s) (i+1)) left st)):=by
 have HLEN:=Lib.hid (zaQ s)
 have HA:=Lib.hid ha
 have HI:=Lib.hid h
 have hr:=ha.rdr _ _ _ _ h
 obtain⟨d0,d1⟩:=hd
 obtain⟨⟨c0,c1,c2⟩,f0,f1,f2⟩:=hr.cells
 have hr1:Rdr (w.setCell ⟨rb,1,none⟩ (.int .i64 ((i:Int)+1))) rb s (i+1:Nat) (256-left):=Rdr.goes hr _
 have HI1:=Lib.hid (ha.moved _ _ _ (i+1) _ _ h hi (zaV w rb 1 (.int .i64 ((i:Int)+1))) hr1)
 have HB:=Lib.hid (zbg rb s (i+1) _ _ hr1 hi (by omega))
 have hsk:=zgz _ (strL s) (i+1) (Nat.le_refl _) (by rw[zaQ];exact hi)
 rw[zaQ]at hsk
 obtain⟨k,hk⟩: ∃k,k=zaW (strL s) (i+1):=⟨_,rfl⟩
 rw[←hk]at HB hsk⊢
 have hk2:=hsk.2
 have HAH:=Lib.hid (fun(W:World) (hr:Rdr W rb s k (256-left))=>zbi rb s k _ W hr hk2 (by omega))
 clear ha h hr hr1 hk hsk
 by_cases hcl:atL (strL s) k=c
 ·rw[if_pos hcl]
  rw[(zff hc0).2 hcl]at HAH
  have hcc:(c==c)=true:=beq_self_eq_true c
  have hkl:k<s.size:=by rw[←HLEN.out];exact zbZ (by omega)
  clear hcl
  go_enter Tryz.func191,Tryz.ntmps191
  go_wp2_with(first|(go_at_call 129;(with_reducible refine HB.out.mono ?_);rintro e w1 ⟨rfl,hg1,hr1⟩;have HI2:=Lib.hid (HA.out.moved _ _ _ k _ _ HI1.out hk2 hg1 hr1);have HR1:=Lib.hid hr1;obtain⟨⟨c0,c1,c2⟩,f0,f1,f2⟩:=Rdr.cells hr1;clear hg1 hr1)|(go_at_call 160;(with_reducible refine(HAH.out _ HR1.out).mono ?_);rintro e w' ⟨rfl,q,rfl⟩))
  go_end0
  exact⟨rfl,HA.out.moved _ _ _ (k+1) _ _ HI2.out hkl (zag _ q rb 1 _) (Rdr.goes (HR1.out.drewN q) _)⟩
 ·rw[if_neg hcl]
  have hne:=zme (l:=strL s) (i:=k) hc0 hcl
  have ncc:(ahL (strL s) k==c)=false:=by rw[beq_eq_false_iff_ne];exact hne
  obtain⟨x,hx⟩: ∃x,x=ahL (strL s) k:=⟨_,rfl⟩
  rw[←hx]at HAH ncc
  obtain⟨res,hres⟩: ∃r,r=goI (strL s) c step (s.size+1) k left st:=⟨_,rfl⟩
  rw[←hres]
  have HRES:=Lib.hid hres
  clear hcl hne hx hres
  go_enter Tryz.func191,Tryz.ntmps191
  go_wp2_with(first|(go_at_call 129;(with_reducible refine HB.out.mono ?_);rintro e w1 ⟨rfl,hg1,hr1⟩;have HI2:=Lib.hid (HA.out.moved _ _ _ k _ _ HI1.out hk2 hg1 hr1);have HR1:=Lib.hid hr1;clear hg1 hr1)|(go_at_call 160;(with_reducible refine(HAH.out _ HR1.out).mono ?_);rintro e w' ⟨rfl,q,rfl⟩;have HI3:=Lib.hid (HA.out.moved _ _ _ k _ _ HI2.out hk2 (zbe q _) (HR1.out.drewN q))))
  go_loopw[8] (fun m wr=>(∃(j:Nat) (lf:Int) (t:α) (f:Nat),m= .bool true∧s.size<j+f∧Inv wr j lf t∧res=goI (strL s) c step f j lf t)∨(∃(j:Nat) (lf:Int) (t:α),m= .bool false∧Inv wr j lf t∧res= .inr (j,lf,t))) (fun m wr=>match m with| .bool true=>s.size+1-znQ wr rb|_=>0)
  case atStart=>exact .inl ⟨k,left,st,s.size+1,rfl,by omega,HI3.out,HRES.out⟩
  case round=>
   clear HI1 HI2 HI3 HB HAH HR1 HI c0 c1 c2 f0 f1 f2 ncc
   rcases hrel with⟨j,lf,t,f,rfl,hf,hinv,hrun⟩|⟨j,lf,t,rfl,hinv,hrun⟩
   ·obtain⟨l0,l1,hjs⟩:=HA.out.left _ _ _ _ hinv
    obtain⟨f,rfl⟩: ∃f',f=f'+1:=⟨f-1,by omega⟩
    have HIV:=Lib.hid hinv
    have HPOS:=Lib.hid (zde (HA.out.rdr _ _ _ _ hinv))
    rw[goI]at hrun
    obtain⟨T,hT⟩: ∃T,T=step j lf t:=⟨_,rfl⟩
    rw[←hT]at hrun
    have HT:=Lib.hid hT
    have HRN:=Lib.hid hrun
    clear hinv hT hrun
    rcases T with⟨p,er⟩|⟨j2,l2,t2⟩
    ·have HB:=Lib.hid (HA.out.bad wr j lf t p er HIV.out HT.out.symm)
     go_wp2_with fail
     refine HB.out.mono ?_
     rintro e w2 ⟨rfl,hR⟩
     have HR2:=Lib.hid hR
     clear hR
     go_wp2
     rw[show res= .inl (p,er)from HRN.out]
     exact⟨rfl,rfl,HR2.out⟩
    ·obtain⟨hm1,hm2⟩:=HA.out.more _ _ _ _ _ _ hjs l0 l1 HT.out.symm
     have HK:=Lib.hid (HA.out.ok wr j lf t j2 l2 t2 HIV.out HT.out.symm)
     have HRN2:Hid (res=if atL (strL s) j2=44 then goI (strL s) c step f (j2+1) l2 t2 else if atL (strL s) j2=c then .inr (j2+1,l2,t2)else .inl (j2,50)):=Lib.hid HRN.out
     go_wp2_with fail
     refine HK.out.mono ?_
     rintro e w2 ⟨rfl,q,hq,hsk,hinv⟩
     have HIV2:=Lib.hid hinv
     obtain⟨l20,l21,_⟩:=HA.out.left _ _ _ _ hinv
     have hgo:=goesOn_any rb s q (256-l2) c w2 (HA.out.rdr _ _ _ _ hinv) hq (by omega) hc0 hc
     rw[hsk]at hgo
     have HGO:=Lib.hid hgo
     clear hinv hsk hgo
     go_wp2_with fail
     refine HGO.out.mono ?_
     rintro e w3 (⟨h44,rfl,hg3,hr3⟩|⟨hcc,rfl,hg3,hr3⟩|⟨h44,hcc,rfl,hg3⟩)
     ·have hlt:j2<s.size:=by rw[←HLEN.out];exact zbZ (by omega)
      have HIV3:=Lib.hid (HA.out.moved _ _ _ (j2+1) _ _ HIV2.out hlt hg3 hr3)
      have HRN3:=Lib.hid (HRN2.out.trans (if_pos h44))
      clear h44 hg3 hr3
      go_wp2
      go_roundw
      case rel=>exact .inl ⟨j2+1,l2,t2,f,rfl,by omega,HIV3.out,HRN3.out⟩
      case measure=>show s.size+1-znQ w3 rb<s.size+1-znQ wr rb;rw[zde (HA.out.rdr _ _ _ _ HIV3.out),HPOS.out];omega
     ·have hlt:j2<s.size:=by rw[←HLEN.out];exact zbZ (by rw[hcc];intro e;omega)
      have HIV3:=Lib.hid (HA.out.moved _ _ _ (j2+1) _ _ HIV2.out hlt hg3 hr3)
      have HRN3:=Lib.hid (HRN2.out.trans ((if_neg (fun h=>hc (hcc.symm.trans h))).trans (if_pos hcc)))
      clear hcc hg3 hr3
      go_wp2
      go_roundw
      case rel=>exact .inr ⟨j2+1,l2,t2,rfl,HIV3.out,HRN3.out⟩
      case measure=>show 0<s.size+1-znQ wr rb;rw[HPOS.out];omega
     ·have HRN3:=Lib.hid (HRN2.out.trans ((if_neg h44).trans (if_neg hcc)))
      have HR3:=Lib.hid (HA.out.gone _ _ _ _ _ HIV2.out hg3)
      clear h44 hcc hg3
      go_wp2
      rw[HRN3.out]
      exact⟨rfl,rfl,HR3.out⟩
   ·have HRN:=Lib.hid hrun
    have HIV:=Lib.hid hinv
    clear hrun hinv
    go_wp2
    go_end0
    rw[HRN.out]
    exact⟨rfl,HIV.out⟩
def ValPost (w:World) (rb:Nat) (s:ByteArray) (r:VR) (e:Ending) (w':World):Prop:=
 (r.2.2.2=0∧ ∃v q,e= .returned v∧RepS w' (fun b=>w.heap.size≤b) r.1 v∧q≤s.size∧zaW (strL s) q=r.2.1∧zcg w w' rb s (q:Nat) (256-r.2.2.1))∨(r.2.2.2≠0∧ziJ w rb (r.2.1:Nat) r.2.2.2 e w')
def zfu (s:ByteArray) (rb d:Nat):Prop:= ∀(i:Nat) (left:Int) (w:World),i≤s.size→0≤left→left≤256→Rdr w rb s i (256-left)→GW w rb→
 Calls Tryz.prog 128 #[.pointer (some ⟨rb,0,none⟩),.int .i64 (9-(d:Int))] w (ValPost w rb s (valueL (strL s) d (zaW (strL s) i) left))
structure LInv (W wr:World) (rb:Nat) (s:ByteArray) (dep:Int) (vs:List J) (xs:List Value) (vL:Value) (i n:Int):Prop where
 c2:Blk wr W.heap.size 227 [.pointer (some ⟨rb,0,none⟩)]
 c3:Blk wr (W.heap.size+1) 3 [.int .i64 dep]
 c4:Blk wr (W.heap.size+2) 63 zeros5
 c5:Blk wr (W.heap.size+3) 63 [.int .i64 4,.int .i64 0,.string ⟨#[]⟩,vL,.slice none 0 0]
 own:wr.ownsRow (W.heap.size+4) 63 5 vL vs.length xs
 flat:FlatJ wr (fun b=>W.heap.size+4≤b∧vL.ownBlock≠some b) vs xs
 gr:W.grownBy wr (some rb)
 lt:rb<W.heap.size
 sz:W.heap.size+4≤wr.heap.size
 rdr:Rdr wr rb s i n
theorem LInv.moved {W wr w2:World} {rb:Nat} {s:ByteArray} {dep:Int} {vs:List J} {xs:List Value} {vL:Value} {i n j m:Int} (h:LInv W wr rb s dep vs xs vL i n) (hm:wr.grownBy w2 (some rb)) (hr:Rdr w2 rb s j m):LInv W w2 rb s dep vs xs vL j m:=by
 have lt:=h.lt
 have ne: ∀k,W.heap.size≤k→some k≠some rb:=fun k hk e=>by injection e with e;omega
 refine⟨h.c2.grown hm (ne _ (Nat.le_refl _)),h.c3.grown hm (ne _ (by omega)),h.c4.grown hm (ne _ (by omega)),h.c5.grown hm (ne _ (by omega)),h.own.kept hm ?_,?_,h.gr.trans hm,lt,Nat.le_trans h.sz hm.size,hr⟩
 ·cases hv:vL.ownBlock with
  |none=>exact .inl rfl
  |some g=>exact .inr (fun e=>by injection e with e;have:=(h.own.lt g hv).1;omega)
 ·exact h.flat.keeps ⟨hm.size,fun b hb hl=>hm.block b hl (ne b (by have:=hb.1;omega))⟩ (fun b hb _=>hb)
theorem znX {w5:World} {base g cap n:Nat} {e:TypeId} {xs:List Value} {z0 z1 z2 z3 z4 c0 c1 c2 c3 c4:Value} (hl:xs.length=n*5) (h:w5.ownsRow base e 5 (.slice (some ⟨g,0,none⟩) (n+1) cap) (n+1) (xs++[z0,z1,z2,z3,z4])):
  (((((w5.setCell ⟨g,n*5,none⟩ c0).setCell ⟨g,n*5+1,none⟩ c1).setCell ⟨g,n*5+2,none⟩ c2).setCell ⟨g,n*5+3,none⟩ c3).setCell ⟨g,n*5+4,none⟩ c4).ownsRow base e 5 (.slice (some ⟨g,0,none⟩) (n+1) cap) (n+1) (xs++[c0,c1,c2,c3,c4])∧
  w5.grownBy (((((w5.setCell ⟨g,n*5,none⟩ c0).setCell ⟨g,n*5+1,none⟩ c1).setCell ⟨g,n*5+2,none⟩ c2).setCell ⟨g,n*5+3,none⟩ c3).setCell ⟨g,n*5+4,none⟩ c4) (some g):=by
 have h1:=h.stored (n*5) c0
 have h2:=h1.1.stored (n*5+1) c1
 have h3:=h2.1.stored (n*5+2) c2
 have h4:=h3.1.stored (n*5+3) c3
 have h5:=h4.1.stored (n*5+4) c4
 have e:(((((xs++[z0,z1,z2,z3,z4]).set (n*5) c0).set (n*5+1) c1).set (n*5+2) c2).set (n*5+3) c3).set (n*5+4) c4=xs++[c0,c1,c2,c3,c4]:=by
  rw[←hl]
  simp[List.set_append]
 rw[e]at h5
 exact⟨h5.1,(((h1.2.trans h2.2).trans h3.2).trans h4.2).trans h5.2⟩
theorem LInv.add {W wr w4 w5:World} {rb:Nat} {s:ByteArray} {dep:Int} {vs:List J} {xs:List Value} {vL:Value} {i n j m:Int} {x:J} {z0 z1 z2 z3 z4 c0 c1 c2 c3 c4:Value} {g cap:Nat} (h:LInv W wr rb s dep vs xs vL i n) (h4:wr.grownBy w4 (some rb)) (hr:Rdr w4 rb s j m)
  (hx:RepS w4 (fun b=>wr.heap.size≤b) x (.agg #[c0,c1,c2,c3,c4])) (hgr:w4.grownBy w5 vL.ownBlock) (hown:w5.ownsRow (W.heap.size+4) 63 5 (.slice (some ⟨g,0,none⟩) (vs.length+1) cap) (vs.length+1) (xs++[z0,z1,z2,z3,z4])) (hat:vL.ownBlock=some g∨w4.heap.size≤g):
  LInv W ((((((w5.setCell ⟨g,vs.length*5,none⟩ c0).setCell ⟨g,vs.length*5+1,none⟩ c1).setCell ⟨g,vs.length*5+2,none⟩ c2).setCell ⟨g,vs.length*5+3,none⟩ c3).setCell ⟨g,vs.length*5+4,none⟩ c4).setCell ⟨W.heap.size+3,3,none⟩ (.slice (some ⟨g,0,none⟩) (vs.length+1) cap)) rb s dep (vs++[x]) (xs++[c0,c1,c2,c3,c4]) (.slice (some ⟨g,0,none⟩) (vs.length+1) cap) j m:=by
 have hI:=h.moved h4 hr
 obtain⟨o6,g6⟩:=znX (c0:=c0) (c1:=c1) (c2:=c2) (c3:=c3) (c4:=c4) hI.own.1 hown
 generalize ((((w5.setCell ⟨g,vs.length*5,none⟩ c0).setCell ⟨g,vs.length*5+1,none⟩ c1).setCell ⟨g,vs.length*5+2,none⟩ c2).setCell ⟨g,vs.length*5+3,none⟩ c3).setCell ⟨g,vs.length*5+4,none⟩ c4=w6 at o6 g6⊢
 have g7:=zaV w6 (W.heap.size+3) 3 (.slice (some ⟨g,0,none⟩) (vs.length+1) cap)
 have lt:=h.lt
 have hgB:W.heap.size+4≤g:=(hown.lt g rfl).1
 have lL:=fun k hk=>(hI.own.lt k hk).1
 have s4:=hI.sz
 have keep: ∀k,k<w4.heap.size→k<W.heap.size+4→k≠W.heap.size+3→(w6.setCell ⟨W.heap.size+3,3,none⟩ (.slice (some ⟨g,0,none⟩) (vs.length+1) cap)).heap[k]? =w4.heap[k]? :=fun k hk h1 h2=>by
  rw[g7.block k (Nat.lt_of_lt_of_le hk (Nat.le_trans hgr.size g6.size)) (by intro e;injection e with e;exact h2 e),g6.block k (Nat.lt_of_lt_of_le hk hgr.size) (by intro e;injection e with e;omega)]
  exact hgr.block k hk (fun e=>by have:=lL k e.symm;omega)
 have key: ∀b,b<w4.heap.size→W.heap.size+4≤b→vL.ownBlock≠some b→b≠g→(w6.setCell ⟨W.heap.size+3,3,none⟩ (.slice (some ⟨g,0,none⟩) (vs.length+1) cap)).heap[b]? =w4.heap[b]? :=fun b hk h1 h2 h3=>by
  rw[g7.block b (Nat.lt_of_lt_of_le hk (Nat.le_trans hgr.size g6.size)) (by intro e;injection e with e;omega),g6.block b (Nat.lt_of_lt_of_le hk hgr.size) (by intro e;injection e with e;exact h3 e)]
  exact hgr.block b hk (fun e=>h2 e.symm)
 have hsz:w4.heap.size≤(w6.setCell ⟨W.heap.size+3,3,none⟩ (.slice (some ⟨g,0,none⟩) (vs.length+1) cap)).heap.size:=Nat.le_trans hgr.size (Nat.le_trans g6.size g7.size)
 refine⟨(keep _ (by omega) (by omega) (by omega)).trans hI.c2,(keep _ (by omega) (by omega) (by omega)).trans hI.c3,(keep _ (by omega) (by omega) (by omega)).trans hI.c4,?_,?_,?_,?_,lt,Nat.le_trans s4 hsz,(keep rb hr.lt (by omega) (by omega)).trans hr⟩
 ·have:Blk w6 (W.heap.size+3) 63 [.int .i64 4,.int .i64 0,.string ⟨#[]⟩,vL,.slice none 0 0]:=
   ((hI.c5.grown hgr (fun e=>by have:=lL _ e.symm;omega))).grown g6 (by intro e;injection e with e;omega)
  exact this.setCell 3 _
 ·rw[List.length_append]
  exact o6.kept g7 (.inr (by simp[Value.ownBlock];omega))
 ·refine FlatJ.snoc ?_ ?_
  ·refine RepS.keeps (S:=fun b=>wr.heap.size≤b) ⟨hsz,fun b h1 h3=> ?_⟩ (fun b h1 h3=> ?_) _ _ hx
   ·replace h1:wr.heap.size≤b:=h1
    have hs:=h.sz
    refine key b h3 (by omega) (fun e=>by have:=(h.own.lt b e).2;omega) (fun e=> ?_)
    rcases hat with h|h
    ·have:=(‹LInv W wr rb s dep vs xs vL i n›.own.lt g h).2;omega
    ·omega
   ·replace h1:wr.heap.size≤b:=h1
    have hs:=h.sz
    refine⟨by omega,fun e=> ?_⟩
    have e:g=b:=by simpa[Value.ownBlock]using e
    rcases hat with h|h
    ·have:=(‹LInv W wr rb s dep vs xs vL i n›.own.lt g h).2;omega
    ·omega
  ·refine hI.flat.keeps ⟨hsz,fun b h1 h3=> ?_⟩ (fun b h1 h3=> ?_)
   ·refine key b h3 h1.1 h1.2 (fun e=> ?_)
    rcases hat with h|h
    ·exact h1.2 (by rw[h,e])
    ·omega
   ·refine⟨h1.1,fun e=> ?_⟩
    have e:g=b:=by simpa[Value.ownBlock]using e
    rcases hat with h|h
    ·exact h1.2 (by rw[h,e])
    ·omega
 ·refine⟨?_,?_,?_,Nat.le_trans hI.gr.size hsz,fun k hk hne=> ?_⟩
  ·exact(g7.os.trans (g6.os.trans (hgr.os))).trans hI.gr.os
  ·exact(g7.tape.trans (g6.tape.trans (hgr.tape))).trans hI.gr.tape
  ·exact(g7.output.trans (g6.output.trans (hgr.output))).trans hI.gr.output
  ·exact(keep k (Nat.lt_of_lt_of_le hk hI.gr.size) (by omega) (by omega)).trans (hI.gr.block k hk hne)
theorem infoJp:(Tryz.prog.info? 63).map (fun i=>(i.zero,i.size,i.bytes))=some (some (.agg zeros5.toArray),5,80):=by kernel_rfl
abbrev litZ:Obj:= .cells #[.int .i64 0,.int .i64 0,.string ⟨#[]⟩,.slice none 0 0,.slice none 0 0] 63
theorem zaZ {w w':World} {b o:Nat} {v:Value} {row:Option Nat} (h:w.cell? ⟨b,o,none⟩=some v) (hg:w.grownBy w' row) (hr:some b≠row):w'.cell? ⟨b,o,none⟩=some v:=hg.cell h hr
theorem zct {w:World} {base g cap n size:Nat} {e:TypeId} {xs:List Value} (h:w.ownsRow base e size (.slice (some ⟨g,0,none⟩) n cap) n xs) (o:Nat):w.frozen? ⟨g,o,none⟩=false:=by
 rcases h.2 with⟨h',_⟩|⟨g',cap',cur,h',hb,hg,_⟩
 ·simp at h'
 ·simp only[Value.slice.injEq,Option.some.injEq,Addr.mk.injEq,and_true,true_and]at h'
  obtain⟨rfl,rfl⟩:=h'
  exact frozen_of_row w g o cur e hg
theorem zhQ (w:World) {b c:Nat} (h: ¬b=c) (o p:Nat) (x y:Value):(w.setCell ⟨b,o,none⟩ x).setCell ⟨c,p,none⟩ y=(w.setCell ⟨c,p,none⟩ y).setCell ⟨b,o,none⟩ x:=by
 unfold World.setCell
 simp only[World.mk.injEq,true_and,and_true]
 refine Array.ext_getElem? fun i=> ?_
 simp only[Array.getElem?_modify]
 by_cases h1:b=i
 ·by_cases h2:c=i
  ·exact absurd (h1.trans h2.symm) h
  ·simp[h1,h2]
 ·by_cases h2:c=i
  ·simp[h1,h2]
  ·simp[h1,h2]
theorem set_far (w:World) {b g:Nat} (h: ¬b=g) {o o0 o1 o2 o3 o4:Nat} (v c0 c1 c2 c3 c4:Value):
  ((((((w.setCell ⟨b,o,none⟩ v).setCell ⟨g,o0,none⟩ c0).setCell ⟨g,o1,none⟩ c1).setCell ⟨g,o2,none⟩ c2).setCell ⟨g,o3,none⟩ c3).setCell ⟨g,o4,none⟩ c4)=((((((w.setCell ⟨g,o0,none⟩ c0).setCell ⟨g,o1,none⟩ c1).setCell ⟨g,o2,none⟩ c2).setCell ⟨g,o3,none⟩ c3).setCell ⟨g,o4,none⟩ c4).setCell ⟨b,o,none⟩ v):=by
 rw[zhQ w h,zhQ _ h,zhQ _ h,zhQ _ h,zhQ _ h]
structure KeyP (G:Prop):Prop where
 out:G
theorem onceP {G R:Prop} (h:KeyP G→R) (g:G):R:=h ⟨g⟩
def Pack (wr w4:World) (rb:Nat) (s:ByteArray) (x:J) (q p:Nat) (m:Int) (v:Value) (lb:Nat):Prop:=
 wr.grownBy w4 (some rb)∧Rdr w4 rb s (q:Nat) m∧RepS w4 (fun b=>wr.heap.size≤b) x v∧w4.heap[lb]? =some litZ∧q≤s.size∧zaW (strL s) q=p
def ItemOk (W:World) (rb:Nat) (s:ByteArray) (dep:Int) (vs:List J) (x:J) (p:Nat) (n:Int) (e:Ending) (w':World):Prop:=
 ∃xs vL q,e= .returned (.tuple #[])∧q≤s.size∧zaW (strL s) q=p∧LInv W w' rb s dep (vs++[x]) xs vL (q:Nat) n
theorem item_bad_Nil (W wr:World) (rb:Nat) (s:ByteArray) (dep:Int) (hd:0≤dep∧dep≤9) (vs:List J) (xs:List Value) (vL:Value) (i n p er:Int) (h:LInv W wr rb s dep vs xs vL i n) (hvL:vL= .slice none 0 0)
  (hv: ∀w,Rdr w rb s i n→wr.grownBy w (some rb)→Calls Tryz.prog 128 #[.pointer (some ⟨rb,0,none⟩),.int .i64 (dep+1)] w (fun e w'=>e= .panicked (flt p er)∧w.grownBy w' (some rb))):
  Calls Tryz.prog 192 #[.pointer (some ⟨W.heap.size+3,0,none⟩),.pointer (some ⟨W.heap.size,0,none⟩),.pointer (some ⟨W.heap.size+1,0,none⟩)] wr (fun e w'=>e= .panicked (flt p er)∧W.grownBy w' (some rb)):=by
 subst hvL
 have HI:=Lib.hid h
 have HV:=Lib.hid hv
 have hlt:=h.lt
 have hsz:=h.sz
 have k2:wr.cell? ⟨W.heap.size,0,none⟩=some (.pointer (some ⟨rb,0,none⟩)):=h.c2.cell 0
 have k3:wr.cell? ⟨W.heap.size+1,0,none⟩=some (.int .i64 dep):=h.c3.cell 0
 have k5:wr.cell? ⟨W.heap.size+3,3,none⟩=some (.slice none 0 0):=h.c5.cell 3
 have l2:(wr.alloc litZ).cell? ⟨W.heap.size,0,none⟩=some (.pointer (some ⟨rb,0,none⟩)):=(World.grownBy_alloc wr litZ none).cell k2 (by simp)
 have l3:(wr.alloc litZ).cell? ⟨W.heap.size+1,0,none⟩=some (.int .i64 dep):=(World.grownBy_alloc wr litZ none).cell k3 (by simp)
 have l5:(wr.alloc litZ).cell? ⟨W.heap.size+3,3,none⟩=some (.slice none 0 0):=(World.grownBy_alloc wr litZ none).cell k5 (by simp)
 obtain⟨d0,d1⟩:=hd
 have hw:IntKind.i64.wrap (dep+1)=dep+1:=by rw[IntKind.wrap_i64];omega
 clear h hv
 go_enter Tryz.func192,Tryz.ntmps192
 refine wp_region_held_drew (S:=fun X=>X.cell? ⟨W.heap.size,0,none⟩=some (.pointer (some ⟨rb,0,none⟩))∧X.cell? ⟨W.heap.size+1,0,none⟩=some (.int .i64 dep)) (by kernel_rfl) ⟨k2,k3⟩ (fun hHeld=> ?_)
 refine wpAnyH_take (i:=0) (v:= ?v0q1) rfl (by kernel_rfl) (by kernel_rfl) (by kernel_rfl) (fun _ _ _ h=>h) (Or.inl ⟨by rfl,?hy0q1⟩) (by assumption) ?rest0q1
 case hy0q1=>(intro w hSw;(try obtain⟨hSa,hSb⟩:=hSw);first|(go_simp;done)|(go_simp;with_reducible rfl))
 try simp only[rgS]
 refine wpAnyH_take (i:=2) (v:= ?v2q2) rfl (by kernel_rfl) (by kernel_rfl) (by kernel_rfl) (fun _ _ _ h=>h) (Or.inl ⟨by rfl,?hy2q2⟩) (by assumption) ?rest2q2
 case hy2q2=>(intro w hSw;(try obtain⟨hSa,hSb⟩:=hSw);first|(go_simp;done)|(go_simp;with_reducible rfl))
 try simp only[rgS]
 refine wpAnyH_take (i:=3) (v:= ?v3q3) rfl (by kernel_rfl) (by kernel_rfl) (by kernel_rfl) (fun _ _ _ h=>h) (Or.inl ⟨by rfl,?hy3q3⟩) (by assumption) ?rest3q3
 case hy3q3=>(intro w hSw;(try obtain⟨hSa,hSb⟩:=hSw);first|(go_simp;done)|(go_simp;with_reducible rfl))
 try simp only[rgS]
 refine wpAnyH_take (i:=4) (v:= ?v4q4) rfl (by kernel_rfl) (by kernel_rfl) (by kernel_rfl) (fun _ _ _ h=>h) (Or.inl ⟨by rfl,?hy4q4⟩) (by assumption) ?rest4q4
 case hy4q4=>(intro w hSw;(try obtain⟨hSa,hSb⟩:=hSw);first|(go_simp;done)|(go_simp;with_reducible rfl))
 try simp only[rgS]
 refine wpAnyH_ready (rs:=[1,5,7]) (by kernel_rfl) (by simp) ?_
 refine AllReadyH.cons rfl (fun K hK=> ?_) ?_
 ·skip
  go_simp
  refine hK.out _ _ ⟨k2,k3⟩ (fun hHeld=> ?_)
  clear hK K
  try simp only[rgS]
  refine wpAnyH_take (i:=6) (v:= ?v6q5) rfl (by kernel_rfl) (by kernel_rfl) (by kernel_rfl) (fun _ _ _ h=>h) (Or.inl ⟨by rfl,?hy6q5⟩) (by assumption) ?rest6q5
  case hy6q5=>(intro w hSw;(try obtain⟨hSa,hSb⟩:=hSw);first|(go_simp;done)|(go_simp;with_reducible rfl))
  try simp only[rgS]
  refine wpAnyH_ready (rs:=[5,7]) (by kernel_rfl) (by simp) ?_
  refine AllReadyH.cons rfl (fun K hK=> ?_) ?_
  ·skip
   go_simp
   go_at_call 128
   (with_reducible refine(HV.out _ (Blk.drew HI.out.rdr) (zaJ (zaY wr _))).mono ?_)
   rintro e w3 ⟨rfl,hg3⟩
   exact⟨rfl,rfl,HI.out.gr.trans ((zaJ (zaY wr _)).trans hg3)⟩
  refine AllReadyH.cons rfl (fun K hK=> ?_) AllReadyH.nil
  go_simp
  refine hK.out _ _ ⟨l2,l3⟩ (fun hHeld=> ?_)
  clear hK K
  try simp only[rgS]
  refine wpAnyH_ready (rs:=[5]) (by kernel_rfl) (by simp) ?_
  refine AllReadyH.cons rfl (fun K hK=> ?_) AllReadyH.nil
  go_simp
  go_at_call 128
  (with_reducible refine(HV.out _ (Blk.drew (Blk.grownN HI.out.rdr (World.grownBy_alloc wr litZ none))) (zaJ (World.grownBy_alloc wr litZ _))).mono ?_)
  rintro e w3 ⟨rfl,hg3⟩
  exact⟨rfl,rfl,HI.out.gr.trans ((zaJ (World.grownBy_alloc wr litZ _)).trans hg3)⟩
 refine AllReadyH.cons rfl (fun K hK=> ?_) ?_
 ·skip
  go_simp
  go_at_call 128
  (with_reducible refine(HV.out _ (Blk.drew HI.out.rdr) (zaJ (zaY wr _))).mono ?_)
  rintro e w3 ⟨rfl,hg3⟩
  exact⟨rfl,rfl,HI.out.gr.trans ((zaJ (zaY wr _)).trans hg3)⟩
 refine AllReadyH.cons rfl (fun K hK=> ?_) AllReadyH.nil
 go_simp
 refine hK.out _ _ ⟨l2,l3⟩ (fun hHeld=> ?_)
 clear hK K
 try simp only[rgS]
 refine wpAnyH_ready (rs:=[1,5]) (by kernel_rfl) (by simp) ?_
 refine AllReadyH.cons rfl (fun K hK=> ?_) ?_
 ·skip
  go_simp
  refine hK.out _ _ ⟨l2,l3⟩ (fun hHeld=> ?_)
  clear hK K
  try simp only[rgS]
  refine wpAnyH_take (i:=6) (v:= ?v6q6) rfl (by kernel_rfl) (by kernel_rfl) (by kernel_rfl) (fun _ _ _ h=>h) (Or.inl ⟨by rfl,?hy6q6⟩) (by assumption) ?rest6q6
  case hy6q6=>(intro w hSw;(try obtain⟨hSa,hSb⟩:=hSw);first|(go_simp;done)|(go_simp;with_reducible rfl))
  try simp only[rgS]
  refine wpAnyH_ready (rs:=[5]) (by kernel_rfl) (by simp) ?_
  refine AllReadyH.cons rfl (fun K hK=> ?_) AllReadyH.nil
  go_simp
  go_at_call 128
  (with_reducible refine(HV.out _ (Blk.drew (Blk.grownN HI.out.rdr (World.grownBy_alloc wr litZ none))) (zaJ (World.grownBy_alloc wr litZ _))).mono ?_)
  rintro e w3 ⟨rfl,hg3⟩
  exact⟨rfl,rfl,HI.out.gr.trans ((zaJ (World.grownBy_alloc wr litZ _)).trans hg3)⟩
 refine AllReadyH.cons rfl (fun K hK=> ?_) AllReadyH.nil
 go_simp
 go_at_call 128
 (with_reducible refine(HV.out _ (Blk.drew (Blk.grownN HI.out.rdr (World.grownBy_alloc wr litZ none))) (zaJ (World.grownBy_alloc wr litZ _))).mono ?_)
 rintro e w3 ⟨rfl,hg3⟩
 exact⟨rfl,rfl,HI.out.gr.trans ((zaJ (World.grownBy_alloc wr litZ _)).trans hg3)⟩
end Go.Proofs.YtceddodfddlncaaGreatDoor
