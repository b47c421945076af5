
import Derived.Maps.Range
import Derived.Test.YtceddodfddlncaaGreatDoorJv02
import Derived.Test.YtceddodfddlncaaGreatDoorJv09
import Derived.Test.YtceddodfddlncaaGreatDoorJv13
set_option maxRecDepth 100000
set_option maxHeartbeats 16000000
set_option linter.all false
namespace Go.Proofs.YtceddodfddlncaaGreatDoor
open Go Go.RowKit Tryz
def fY:=@underlying60
def iI:=@ByteArray.size_extract
def jt:=@World.frozen?_setCell
def jR:=@World.grownBy.size
def lk:=@ntmps204
def lM:=@func204
def mo:=@ntmps217
def mE:=@func217
def GW (w:World) (rb:Nat):Prop:=Marks w∧ErrTab w∧rb≠6∧rb≠0
theorem GW.grown {w w':World} {q:Nat} (h:GW w q) (D:w.grownBy w' (some q)):GW w' q:=by
 obtain⟨h1,B,F,E⟩:=h
 refine⟨Blk.grown h1 D (by intro e;injection e with e;exact F e.symm),?_,F,E⟩
 have G:=nc B
 have:=D.block 0 G (by intro e;injection e with e;exact E e.symm)
 unfold ErrTab World.cell? at B⊢
 simp only[this]
 exact B
theorem JT (s:ByteArray) (k:Nat):a_ (s.extract k s.size)=(a_ s).drop k:=by
 rw[pF,eo (by rw[j_];exact dQ _)]
theorem Cx (l:List UInt8):Lib.hasPrefix l [92,117]=decide (f_ (l.map fun b=>(b.toNat:Int)) 0=92∧f_ (l.map fun b=>(b.toNat:Int)) 1=117):=by
 have q: ∀(a:UInt8) (n:Nat),n<256→((n.toUInt8==a)=decide ((a.toNat:Int)=n)):=fun a n D=>by
  rw[iA,gm,eb]
  constructor
  ·intro h;rw[←h];simp;omega
  ·intro h;apply lA.1;simp;omega
 match l with
 |[]=>rfl
 |[a]=>
  show((92:UInt8)==a&&List.isPrefixOf [117] [])=_
  rw[show List.isPrefixOf [(117:UInt8)] []=false from rfl,kU]
  symm;rw[fz];rintro⟨_,h⟩;exact absurd h (show ¬(-1:Int)=117 by decide)
 |a::b::r=>
  show((92:UInt8)==a&&((117:UInt8)==b&&List.isPrefixOf [] r))=_
  rw[show List.isPrefixOf ([]:List UInt8) r=true by cases r<;>rfl,Bool.and_true]
  have h1:=q a 92 (by decide);have B:=q b 117 (by decide)
  rw[show((92:UInt8)==a)=decide ((a.toNat:Int)=92)from h1,show((117:UInt8)==b)=decide ((b.toNat:Int)=117)from B]
  rw[←Bool.decide_and];rfl
theorem y8 (t:ByteArray):Lib.hasPrefix t.data.toList [92,117]=decide (f_ (a_ t) 0=92∧f_ (a_ t) 1=117):=Cx _
theorem tD (t:ByteArray) (h:Lib.hasPrefix t.data.toList [92,117]=true):a_ ⟨(Lib.trimPrefix t.data.toList [92,117]).toArray⟩=(a_ t).drop 2:=by
 unfold Lib.trimPrefix
 rw[dP h]
 simp[a_]
theorem qG (t:ByteArray):(⟨(Lib.trimPrefix t.data.toList [92,117]).toArray⟩:ByteArray).size≤t.size:=by
 unfold Lib.trimPrefix
 split
 ·show(t.data.toList.drop 2).toArray.size≤_
  simp
 ·exact dQ _
theorem Le (s:ByteArray) (w:World) (q:s.size≤1000000):
  Calls prog 216 #[.string s] w fun e w'=>e= .returned (.tuple #[.int .i64 (nv (a_ s) 4 0 0).1,.int .i64 ((nv (a_ s) 4 0 0).2:Int)])∧w'=w:=(sl s w q).mono fun _ _ (h:_∧_)=>(⟨h.1,h.2.symm⟩:_∧_)
theorem xZ {l:List Int} {i:Nat} (h: ¬(oi l i<56320∨57343<oi l i)):(f_ l (i+6)=92∧f_ l (i+7)=117)∧(nv l 4 (i+8) 0).2=4∧oi l i=(nv l 4 (i+8) 0).1:=by
 rw[uX]at h⊢
 by_cases h1:f_ l (i+6)=92∧f_ l (i+7)=117
 ·rw[dP h1]at h⊢
  by_cases q:(nv l 4 (i+8) 0).2=4
  ·rw[dP q];exact⟨h1,q,rfl⟩
  ·rw[dN q]at h;omega
 ·rw[dN h1]at h;omega
theorem AT {l:List Int} {i:Nat} (h:oi l i<56320∨57343<oi l i) (h1:f_ l (i+6)=92∧f_ l (i+7)=117):(nv l 4 (i+8) 0).1<56320∨57344≤(nv l 4 (i+8) 0).1:=by
 have B:=sn l (i+8)
 rw[uX,dP h1]at h
 by_cases q:(nv l 4 (i+8) 0).2=4
 ·rw[dP q]at h;omega
 ·have:=B.2.2.1 q;omega
theorem uB (D:Nat) (s:ByteArray) (i:Nat) (n:Int) (w:World) (h:Rdr w D s (i+6:Nat) n) (hi:i+6≤s.size) (hs:s.size≤1000000) (E: ¬(oi (a_ s) i<56320∨57343<oi (a_ s) i)):
  Calls prog 217 #[.pointer (some ⟨D,0,none⟩),.int .i64 (i:Int)] w fun e w'=>e= .returned (.int .i64 (oi (a_ s) i-56320))∧pv w w' D s (i+12:Nat) n:=by
 obtain⟨Y,h4,N⟩:=xZ E
 have V:=sn (a_ s) (i+8)
 have HR:=Lib.hid h
 obtain⟨⟨c0,c1,c2⟩,f0,f1,f2⟩:=h.cells
 obtain⟨t,B⟩:=yaa (s.extract (i+6) s.size)
 have L:a_ t=(a_ s).drop (i+6):=by rw[B,JT]
 have M:Lib.hasPrefix t.data.toList [92,117]=true:=by
  rw[y8,L,eb,H8,H8];exact Y
 have G:=tD t M
 have U:=qG t
 have R:=Lib.hid (fun W:World=>Tryz.strings_CutPrefix t ⟨#[92,117]⟩ W)
 rw[show(⟨#[92,117]⟩:ByteArray).data.toList=[92,117]from rfl,M]at R
 obtain⟨T,X⟩:=yaa ((⟨(Lib.trimPrefix t.data.toList [92,117]).toArray⟩:ByteArray))
 rw[←X]at R G U
 have aa:t.size≤s.size:=by rw[B];simp[iI]
 have Q:=Lib.hid (fun W:World=>Le T W (by omega))
 have Z:nv (a_ T) 4 0 0=nv (a_ s) 4 (i+8) 0:=by rw[G,L,jK,JB]
 rw[Z]at Q
 rw[N]
 rw[N]at E
 obtain⟨x,F⟩:=yaa ((nv (a_ s) 4 (i+8) 0).1)
 obtain⟨y,hy⟩:=yaa ((((nv (a_ s) 4 (i+8) 0).2:Nat):Int))
 rw[←F,←hy]at Q
 rw[←F]at E V⊢
 have a0:decide (x<56320)=false:=dT (by omega)
 have a1:decide (57344≤x)=false:=dT (by omega)
 have a2:(56320:Int)≤x:=by omega
 have a3:x≤57343:=by omega
 have b0:(0:Int)≤((i+6:Nat):Int):=by omega
 have b1:((i+6:Nat):Int)≤(s.size:Int):=by omega
 have b2:((i+6:Nat):Int).toNat=i+6:=by omega
 obtain⟨I,O⟩:=yaa (i+6)
 rw[←O]at c1 b0 b1 b2 HR B
 have HT:=Lib.hid B
 have HI:=Lib.hid O
 have ab:I≤1000000:=by omega
 clear h F hy Z N E V L G X M Y h4 aa U B O hi
 go_enter mE,mo
 go_wp2
 go_quiet ((go_at_call 220;rw[←HT.out];exact eG (R.out _)))
 go_wp2_with(go_at_call 216;(with_reducible refine(Q.out _).mono ?_);rintro e w' ⟨rfl,rfl⟩)
 go_ret
 refine⟨rfl,oM w _ D 1 _,?_⟩
 have:=Rdr.goes (HR.out.drewN nq) ((i+12:Nat):Int)
 rw[show((i+12:Nat):Int)=(I:Int)+6 by have:=HI.out;omega]at this⊢
 exact this
theorem xI (M:Nat) (s:ByteArray) (i:Nat) (n:Int) (w:World) (h:Rdr w M s (i+6:Nat) n) (hi:i+6≤s.size) (hs:s.size≤1000000) (X:oi (a_ s) i<56320∨57343<oi (a_ s) i):
  Calls prog 217 #[.pointer (some ⟨M,0,none⟩),.int .i64 (i:Int)] w (zF w M i 50):=by
 have HR:=Lib.hid h
 obtain⟨⟨c0,c1,c2⟩,f0,f1,f2⟩:=h.cells
 obtain⟨t,B⟩:=yaa (s.extract (i+6) s.size)
 have O:a_ t=(a_ s).drop (i+6):=by rw[B,JT]
 have G:Lib.hasPrefix t.data.toList [92,117]=decide (f_ (a_ s) (i+6)=92∧f_ (a_ s) (i+7)=117):=by
  rw[y8,O,H8,H8]
 have F:=fun aa=>tD t aa
 have V:=qG t
 have E:=Lib.hid (fun W:World=>Tryz.strings_CutPrefix t ⟨#[92,117]⟩ W)
 rw[show(⟨#[92,117]⟩:ByteArray).data.toList=[92,117]from rfl]at E
 obtain⟨T,Q⟩:=yaa ((⟨(Lib.trimPrefix t.data.toList [92,117]).toArray⟩:ByteArray))
 obtain⟨P,R⟩:=yaa (Lib.hasPrefix t.data.toList [92,117])
 rw[←Q,←R]at E
 rw[←Q]at F V
 rw[←R]at G F
 have Z:t.size≤s.size:=by rw[B];simp[iI]
 have L:=Lib.hid (fun W:World=>Le T W (by omega))
 have b0:(0:Int)≤((i+6:Nat):Int):=by omega
 have b1:((i+6:Nat):Int)≤(s.size:Int):=by omega
 have b2:((i+6:Nat):Int).toNat=i+6:=by omega
 have D:P=true→(nv (a_ T) 4 0 0).1<56320∨57344≤(nv (a_ T) 4 0 0).1:=fun e=>by
  rw[F e,O,jK,JB]
  rw[e]at G
  exact AT X (fG G.symm)
 obtain⟨x,N⟩:=yaa ((nv (a_ T) 4 0 0).1)
 obtain⟨y,hy⟩:=yaa ((((nv (a_ T) 4 0 0).2:Nat):Int))
 rw[←N,←hy]at L
 rw[←N]at D
 obtain⟨I,Y⟩:=yaa (i+6)
 rw[←Y]at c1 b0 b1 b2 HR B
 have U:=Lib.hid B
 have ad:I≤1000000:=by omega
 have ab: ∀(x:Bool) (w:World),(Op.unary .not (.bool x)).run prog w= .ok (.bool (!x)) w:=fun _ _=>rfl
 clear h N hy X O F Q G Z V B Y hi R
 cases P with
 |false=>
  clear D
  go_enter mE,mo
  go_wp2
  go_quiet ((go_at_call 220;rw[←U.out];exact eG (E.out _)))
  go_wp2_with(first|(go_at_call 216;(with_reducible refine(L.out _).mono ?_);rintro e w' ⟨rfl,rfl⟩)|(go_at_call 130;(with_reducible refine(wu _ _ _).mono ?_);rintro e w' ⟨rfl,rfl⟩))
  exact⟨rfl,rfl,zL _ _⟩
 |true=>
  rcases D rfl with hb|hb
  ·have a0:decide (x<56320)=true:=ec hb
   clear D
   go_enter mE,mo
   go_wp2
   go_quiet ((go_at_call 220;rw[←U.out];exact eG (E.out _)))
   go_wp2_with(first|(go_at_call 216;(with_reducible refine(L.out _).mono ?_);rintro e w' ⟨rfl,rfl⟩)|(go_at_call 130;(with_reducible refine(wu _ _ _).mono ?_);rintro e w' ⟨rfl,rfl⟩))
   exact⟨rfl,rfl,zL _ _⟩
  ·have a0:decide (x<56320)=false:=dT (by omega)
   have a1:decide (57344≤x)=true:=ec hb
   clear D
   go_enter mE,mo
   go_wp2
   go_quiet ((go_at_call 220;rw[←U.out];exact eG (E.out _)))
   go_wp2_with(first|(go_at_call 216;(with_reducible refine(L.out _).mono ?_);rintro e w' ⟨rfl,rfl⟩)|(go_at_call 130;(with_reducible refine(wu _ _ _).mono ?_);rintro e w' ⟨rfl,rfl⟩))
   exact⟨rfl,rfl,zL _ _⟩
def EscTells (w:World) (rb:Nat) (s:ByteArray) (n:Int) (r:List Int×Nat×Int) (e:Ending) (w':World):Prop:=
 (r.2.2=0∧e= .returned (.string (toS r.1))∧pv w w' rb s (r.2.1:Nat) n)∨(r.2.2≠0∧zF w rb (r.2.1:Nat) r.2.2 e w')
theorem EscTells.bad {w:World} {q:Nat} {s:ByteArray} {n:Int} {r:List Int×Nat×Int} {e:Ending} {w':World} {l:List Int} {p:Nat} (B:r=(l,p,50)) (h:zF w q p 50 e w'):EscTells w q s n r e w':=by
 rw[B];exact .inr ⟨show(50:Int)≠0 by decide,h⟩
theorem EscTells.ok {w:World} {q:Nat} {s:ByteArray} {n:Int} {r:List Int×Nat×Int} {e:Ending} {w':World} {l:List Int} {p:Nat} (B:r=(l,p,0)) (D:e= .returned (.string (toS l))) (h:pv w w' q s p n):EscTells w q s n r e w':=by
 rw[B];exact .inl ⟨rfl,D,h⟩
theorem Bh (q:Nat) (s:ByteArray) (i:Nat) (n:Int) (w:World) (h:Rdr w q s (i+2:Nat) n) (hg:GW w q) (hi:i+1<s.size) (hs:s.size≤1000000):
  Calls prog 204 #[.pointer (some ⟨q,0,none⟩),.int .i64 (i:Int)] w (EscTells w q s n (pJ (a_ s) i)):=by
 have af:=dM (j_ s)
 have HR:=dM h
 have HG:=dM hg
 obtain⟨⟨c0,c1,c2⟩,f0,f1,f2⟩:=h.cells
 obtain⟨t,V⟩:=yaa (s.extract (i+2) s.size)
 have ah:a_ t=(a_ s).drop (i+2):=by rw[V,JT]
 have aq:t.size≤s.size:=by rw[V];simp[iI]
 have G:=dM (fun W:World=>Le t W (by omega))
 have e1:nv (a_ t) 4 0 0=nv (a_ s) 4 (i+2) 0:=by rw[ah,JB]
 rw[e1]at G
 have Z:=Fe (a_ s) i (by rw[af.out];exact hi)
 have hb:=sn (a_ s) (i+2)
 have ab:=(xQ (a_ s) 4 (i+2) 0).2 (by rw[af.out];omega)
 rw[af.out]at ab
 obtain⟨R,hR⟩:=yaa (pJ (a_ s) i)
 rw[←hR]at Z⊢
 obtain⟨x,F⟩:=yaa ((nv (a_ s) 4 (i+2) 0).1)
 obtain⟨y,hy⟩:=yaa ((nv (a_ s) 4 (i+2) 0).2)
 rw[←F,←hy]at G Z hb
 rw[←hy]at ab
 obtain⟨aC,aB,av,O⟩:=hb
 have b0:(0:Int)≤((i+2:Nat):Int):=by omega
 have b1:((i+2:Nat):Int)≤(s.size:Int):=by omega
 have b2:((i+2:Nat):Int).toNat=i+2:=by omega
 obtain⟨I,hI⟩:=yaa (i+2)
 rw[←hI]at c1 b0 b1 b2 HR V ab
 have X:=dM V
 have U:=dM hI
 have aD:I≤1000000:=by omega
 have ak:=dM Z
 clear h hg F hy e1 ah aq V hI hR Z hi av
 by_cases h4:y≠4
 ·have D:Hid (R=([],I+y,50)):=dM (by rw[ak.out,dP h4,U.out])
  have aA:(y:Int)<4:=by omega
  clear h4
  go_enter lM,lk
  go_wp2
  go_quiet ((go_at_call 216;rw[←X.out];exact eG (G.out _)))
  go_wp2_with(go_at_call 130;(with_reducible refine(wu _ _ _).mono ?_);rintro e w' ⟨rfl,rfl⟩)
  refine⟨rfl,EscTells.bad D.out ⟨?_,oM w _ q 1 _⟩⟩
  rw[show((I+y:Nat):Int)=(I:Int)+(y:Int)by omega]
 ·obtain rfl:y=4:=by omega
  have ap:Hid (R=if 56320≤x∧x<57344 then([],i,50)else if 55296≤x∧x<56320 then(if oi (a_ s) i<56320∨57343<oi (a_ s) i then([],i,50)else(i_ (65536+(x-55296)*1024+oi (a_ s) i-56320),i+12,0))else(i_ x,i+6,0)):=dM (ak.out.trans (dN h4))
  clear h4
  by_cases L:56320≤x∧x<57344
  ·have D:Hid (R=([],i,50)):=dM (ap.out.trans (dP L))
   obtain⟨a0,a1⟩:=L
   go_enter lM,lk
   go_wp2
   go_quiet ((go_at_call 216;rw[←X.out];exact eG (G.out _)))
   go_wp2_with(go_at_call 130;(with_reducible refine(wu _ _ _).mono ?_);rintro e w' ⟨rfl,rfl⟩)
   exact⟨rfl,EscTells.bad D.out ⟨rfl,oM w _ q 1 _⟩⟩
  ·have ao:Hid (R=if 55296≤x∧x<56320 then(if oi (a_ s) i<56320∨57343<oi (a_ s) i then([],i,50)else(i_ (65536+(x-55296)*1024+oi (a_ s) i-56320),i+12,0))else(i_ x,i+6,0)):=dM (ap.out.trans (dN L))
   by_cases ad:55296≤x∧x<56320
   ·obtain⟨a0,a1⟩:=ad
    have a2:decide (56320≤x)=false:=dT (by omega)
    have am:Hid (R=if oi (a_ s) i<56320∨57343<oi (a_ s) i then([],i,50)else(i_ (65536+(x-55296)*1024+oi (a_ s) i-56320),i+12,0)):=dM (ao.out.trans (dP ⟨a0,a1⟩))
    by_cases M:oi (a_ s) i<56320∨57343<oi (a_ s) i
    ·have D:Hid (R=([],i,50)):=dM (am.out.trans (dP M))
     have aa:=dM (fun(W:World) (hr:Rdr W q s (i+6:Nat) n)=>xI q s i n W hr (by have:=U.out;omega) hs M)
     clear M L
     go_enter lM,lk
     go_wp2
     go_quiet ((go_at_call 216;rw[←X.out];exact eG (G.out _)))
     have E:Rdr ((w.drewN nq).setCell ⟨q,1,none⟩ (.int .i64 ((I:Int)+4))) q s (i+6:Nat) n:=by
      rw[show((i+6:Nat):Int)=(I:Int)+4 by have:=U.out;omega];exact Rdr.goes (HR.out.drewN nq) _
     have Q:=dM (aa.out _ E)
     clear E
     go_wp2_with(go_at_call 217;(with_reducible refine Q.out.mono ?_);rintro e w2 ⟨rfl,N⟩;have ag:=dM N;clear N)
     exact⟨rfl,EscTells.bad D.out ⟨rfl,(oM w _ q 1 _).trans ag.out⟩⟩
    ·have D:Hid (R=(i_ (65536+(x-55296)*1024+oi (a_ s) i-56320),i+12,0)):=dM (am.out.trans (dN M))
     have aa:=dM (fun(W:World) (hr:Rdr W q s (i+6:Nat) n)=>uB q s i n W hr (by have:=U.out;omega) hs M)
     have au:56320≤oi (a_ s) i:=by omega
     have ar:oi (a_ s) i≤57343:=by omega
     obtain⟨y,hy⟩:=yaa (oi (a_ s) i)
     rw[←hy]at aa D au ar
     clear M L hy
     go_enter lM,lk
     go_wp2
     go_quiet ((go_at_call 216;rw[←X.out];exact eG (G.out _)))
     have E:Rdr ((w.drewN nq).setCell ⟨q,1,none⟩ (.int .i64 ((I:Int)+4))) q s (i+6:Nat) n:=by
      rw[show((i+6:Nat):Int)=(I:Int)+4 by have:=U.out;omega];exact Rdr.goes (HR.out.drewN nq) _
     have Q:=dM (aa.out _ E)
     have ax:=dM (HG.out.grown (oM w nq q 1 (.int .i64 ((I:Int)+4))))
     have ay:=dM (oM w nq q 1 (.int .i64 ((I:Int)+4)))
     clear E
     go_wp2_with(first|(go_at_call 217;(with_reducible refine Q.out.mono ?_);rintro e w2 ⟨rfl,N,ai⟩;have ag:=dM (ay.out.trans N);have aj:=dM ai;have ae:=dM (fun v=>sc v w2 (ax.out.grown N).1);clear N ai)|(go_at_call 218;(with_reducible refine(ae.out _).mono ?_);rintro e w3 ⟨rfl,O⟩;have Y:=dM O;clear O))
     go_ret
     have az:Hid (R=(i_ (65536+(x-55296)*1024+(y-56320)),i+12,0)):=dM (by rw[show 65536+(x-55296)*1024+(y-56320)=65536+(x-55296)*1024+y-56320 by omega];exact D.out)
     exact EscTells.ok az.out rfl ⟨ag.out.trans (od Y.out _),Blk.below aj.out Y.out aj.out.lt⟩
   ·have D:Hid (R=(i_ x,i+6,0)):=dM (ao.out.trans (dN ad))
    have F:x<55296∨57344≤x:=by omega
    obtain⟨A,B,hA,hB,aw⟩: ∃A B:Bool,decide (56320≤x)=A∧decide (55296≤x)=B∧((A=false∧B=false)∨(A=true∧B=true∧decide (x<57344)=false∧decide (x<56320)=false)):=by
     refine⟨_,_,rfl,rfl,?_⟩
     rcases F with F|F
     ·exact .inl ⟨dT (by omega),dT (by omega)⟩
     ·exact .inr ⟨ec (by omega),ec (by omega),dT (by omega),dT (by omega)⟩
    clear L ad F
    rcases aw with⟨rfl,rfl⟩|⟨rfl,rfl,hC,hD⟩
    all_goals
     go_enter lM,lk
     go_wp2
     go_quiet ((go_at_call 216;rw[←X.out];exact eG (G.out _)))
     have E:Rdr ((w.drewN nq).setCell ⟨q,1,none⟩ (.int .i64 ((I:Int)+4))) q s (i+6:Nat) n:=by
      rw[show((i+6:Nat):Int)=(I:Int)+4 by have:=U.out;omega];exact Rdr.goes (HR.out.drewN nq) _
     have Q:=dM E
     have ae:=dM (fun v=>sc v _ (HG.out.grown (oM w nq q 1 (.int .i64 ((I:Int)+4)))).1)
     clear E
     go_wp2_with(go_at_call 218;(with_reducible refine(ae.out _).mono ?_);rintro e w3 ⟨rfl,O⟩;have Y:=dM O;clear O)
     go_ret
     exact EscTells.ok D.out rfl ⟨(oM w _ q 1 _).trans (od Y.out _),Blk.below Q.out Y.out Q.out.lt⟩
theorem zt {a b:Int} (h:a≠b):(a==b)=false∧(a !=b)=true:=by
 have:(a==b)=false:=by rw[dY];exact h
 exact⟨this,by rw[bne,this];rfl⟩
theorem As (l:List Int) (i:Nat):nQ (oQ l i)=nQ (f_ l i):=by
 unfold oQ;split
 ·rename_i h;rw[h];decide
 ·rfl
theorem Ge {l:List Int} (h:l≠[]):((toS l).toList==[])=false:=by
 rw[dY]
 intro e
 refine h ?_
 have q:(toS l).size=0:=by rw[eT]at e;exact eH List.length e
 rw[qc]at q
 exact ea q
theorem uf {w:World} {q:Nat} {s:ByteArray} {i j n:Int} (h:Rdr w q s i n) (e:i=j):Rdr w q s j n:=e▸h
theorem EscTells.after {w D B:World} {q:Nat} {s:ByteArray} {n:Int} {r:List Int×Nat×Int} {e:Ending} (h1:w.grownBy D (some q)) (h:EscTells D q s n r e B):EscTells w q s n r e B:=
 h.imp (fun h=>⟨h.1,h.2.1,h1.trans h.2.2.1,h.2.2.2⟩) (fun h=>⟨h.1,h.2.1,h1.trans h.2.2⟩)
theorem EscTells.cases {w:World} {q:Nat} {s:ByteArray} {n:Int} {r:List Int×Nat×Int} {e:Ending} {w':World} (h:EscTells w q s n r e w'):(r.2.2=0∧e= .returned (.string (toS r.1))∧pv w w' q s (r.2.1:Nat) n)∨(r.2.2≠0∧e= .panicked (v7 (r.2.1:Nat) r.2.2)∧w.grownBy w' (some q)):=h
theorem vv (B:Nat) (s:ByteArray) (i:Nat) (n:Int) (w:World) (h:Rdr w B s i n) (M:GW w B) (hi:i<s.size) (hs:s.size≤1000000):
  Calls prog 190 #[.pointer (some ⟨B,0,none⟩)] w (EscTells w B s n (n9 (a_ s) i)):=by
 have ae:=dM (j_ s)
 have HR:=dM h
 have HG:=dM M
 obtain⟨⟨c0,c1,c2⟩,f0,f1,f2⟩:=h.cells
 have U:Rdr (w.setCell ⟨B,1,none⟩ (.int .i64 ((i:Int)+1))) B s (i+1:Nat) n:=Rdr.goes h _
 have aa:=dM U
 have L:=dM (tk B s (i+1) n _ U hi hs)
 have I:=G4 s (i+1)
 obtain⟨R,V⟩:=yaa (n9 (a_ s) i)
 have N:R=if f_ (a_ s) (i+1)≠117 then(if nQ (oQ (a_ s) (i+1))=[]then([],i+1,50)else(nQ (oQ (a_ s) (i+1)),i+2,0))else pJ (a_ s) i:=by rw[V,As];rfl
 rw[←V]
 clear h M U V
 by_cases E:f_ (a_ s) (i+1)=117
 ·have ad:i+1<s.size:=by rw[←ae.out];exact oq (by omega)
  have D:Hid (R=pJ (a_ s) i):=dM (N.trans (dN (fun h=>h E)))
  rw[(BC (by decide)).2 E]at L
  have af:=dM (fun(W:World) (hr:Rdr W B s (i+2:Nat) n) (M:GW W B)=>Bh B s i n W hr M ad hs)
  clear N E I
  rw[D.out]
  clear D
  go_enter func190,ntmps190
  go_wp2_with(go_at_call 160;(with_reducible refine L.out.mono ?_);rintro e w' ⟨rfl,q,rfl⟩)
  refine(af.out _ (uf (Rdr.goes (aa.out.drewN q) _) (by omega)) (HG.out.grown ((ou w B 1 _).trans (oM _ q B 1 _)))).mono ?_
  intro e w2 G
  obtain⟨C,Y⟩:=yaa (pJ (a_ s) i)
  rw[←Y]at G
  have HT:=dM (G.after ((ou w B 1 _).trans (oM _ q B 1 _)))
  rcases G.cases with⟨_,rfl,_⟩|⟨_,rfl,_⟩
  ·clear G
   go_wp2
   go_ret
   rw[←Y]
   exact HT.out
  ·clear G
   go_wp2
   rw[←Y]
   exact⟨rfl,HT.out⟩
 ·have Q:oQ (a_ s) (i+1)≠117:=G5 (by decide) E
  have D:Hid (R=if nQ (oQ (a_ s) (i+1))=[]then([],i+1,50)else(nQ (oQ (a_ s) (i+1)),i+2,0)):=dM (N.trans (dP E))
  obtain⟨x,hx⟩:=yaa (oQ (a_ s) (i+1))
  rw[←hx]at L I D Q
  have O:=dM (fun W:World=>Ac x W I.1 I.2)
  obtain⟨ag,_⟩:=zt Q
  clear N E Q I hx HR
  by_cases F:nQ x=[]
  ·have Z:Hid (R=([],i+1,50)):=dM (D.out.trans (dP F))
   rw[F]at O
   clear F D
   go_enter func190,ntmps190
   go_wp2_with(first|(go_at_call 160;(with_reducible refine L.out.mono ?_);rintro e w' ⟨rfl,q,rfl⟩)|(go_at_call 205;(with_reducible refine(O.out _).mono ?_);rintro e w' ⟨rfl,rfl⟩;rw[show toS []=(⟨#[]⟩:ByteArray)from rfl])|(go_at_call 130;(with_reducible refine(wu _ _ _).mono ?_);rintro e w' ⟨rfl,rfl⟩))
   exact⟨rfl,EscTells.bad Z.out ⟨by rw[show((i+1:Nat):Int)=(i:Int)+1 by omega],(ou w B 1 _).trans (zL q _)⟩⟩
  ·have Z:Hid (R=(nQ x,i+2,0)):=dM (D.out.trans (dN F))
   have ab:=Ge F
   obtain⟨P,X⟩:=yaa (toS (nQ x))
   rw[←X]at O ab
   have HP:=dM X
   clear F D X
   go_enter func190,ntmps190
   go_wp2_with(first|(go_at_call 160;(with_reducible refine L.out.mono ?_);rintro e w' ⟨rfl,q,rfl⟩)|(go_at_call 205;(with_reducible refine(O.out _).mono ?_);rintro e w' ⟨rfl,rfl⟩))
   go_ret
   exact EscTells.ok Z.out (by rw[←HP.out];rfl) ⟨(ou w B 1 _).trans (oM _ q B 1 _),uf (Rdr.goes (aa.out.drewN q) _) (by omega)⟩
def uZ {α:Type} (l:List Int) (c:Int) (step:Nat→Int→α→(Nat×Int)⊕(Nat×Int×α)):Nat→Nat→Int→α→(Nat×Int)⊕(Nat×Int×α)
 |0,i,_,_=> .inl (i,50)
 |f+1,i,left,st=>match step i left st with
  | .inl e=> .inl e
  | .inr (j,left',st')=>if f_ l j=44 then uZ l c step f (j+1) left' st' else if f_ l j=c then .inr (j+1,left',st')else .inl (j,50)
structure ItemAsk {α:Type} (s:ByteArray) (rb g:Nat) (caps:Array Value) (step:Nat→Int→α→(Nat×Int)⊕(Nat×Int×α)) (Inv:World→Nat→Int→α→Prop) (R:World→Prop):Prop where
 rdr: ∀w i left st,Inv w i left st→Rdr w rb s i (256-left)
 left: ∀w i left st,Inv w i left st→0≤left∧left≤256∧i≤s.size
 moved: ∀w w2 i k left st,Inv w i left st→k≤s.size→w.grownBy w2 (some rb)→Rdr w2 rb s (k:Nat) (256-left)→Inv w2 k left st
 gone: ∀w w2 i left st,Inv w i left st→w.grownBy w2 (some rb)→R w2
 more: ∀i left st j left' st',i≤s.size→0≤left→left≤256→step i left st= .inr (j,left',st')→i<j∧j≤s.size
 bad: ∀w i left st p er,Inv w i left st→step i left st= .inl (p,er)→Calls prog g caps w (fun e w'=>e= .panicked (v7 (p:Nat) er)∧R w')
 ok: ∀w i left st j left' st',Inv w i left st→step i left st= .inr (j,left',st')→Calls prog g caps w (fun e w'=>e= .returned (.tuple #[])∧ ∃q,q≤s.size∧d_ (a_ s) q=j∧Inv w' q left' st')
def Bx {α:Type} (Inv:World→Nat→Int→α→Prop) (R:World→Prop) (r:(Nat×Int)⊕(Nat×Int×α)) (e:Ending) (w':World):Prop:=
 match r with
 | .inl (p,er)=>e= .panicked (v7 (p:Nat) er)∧R w'
 | .inr (j,left,st)=>e= .returned (.tuple #[])∧Inv w' j left st
theorem L5 (q:Nat) (s:ByteArray) (i n B c:Int) (f:Value) (w:World) (h:Rdr w q s i n) (E:8<B) (D:B≤9):
  Calls prog 191 #[.pointer (some ⟨q,0,none⟩),.int .i64 B,.int .u8 c,f] w (zF w q i 51):=by
 obtain⟨⟨c0,c1,c2⟩,I,G,F⟩:=h.cells
 clear h
 go_enter func191,ntmps191
 go_wp2_with(go_at_call 130;(with_reducible refine(wu _ _ _).mono ?_);rintro e w' ⟨rfl,rfl⟩)
 exact⟨rfl,rfl,ov _ _⟩
theorem rc {α:Type} (s:ByteArray) (D g:Nat) (aB:Array Value) (step:Nat→Int→α→(Nat×Int)⊕(Nat×Int×α)) (Inv:World→Nat→Int→α→Prop) (R:World→Prop) (ha:ItemAsk s D g aB step Inv R)
  (eg: ∀args w,(callFunc g args).run prog w= .ok (.enter g args) w) (au c:Int) (hd:0≤au∧au≤8) (ar:0<c) (hc:c≠44) (i:Nat) (left:Int) (Z:α) (w:World) (h:Inv w i left Z) (hi:i<s.size) (hs:s.size≤100000):
  Calls prog 191 #[.pointer (some ⟨D,0,none⟩),.int .i64 au,.int .u8 c,.func (.func g) #[] aB] w
   (Bx Inv R (if f_ (a_ s) (d_ (a_ s) (i+1))=c then .inr (d_ (a_ s) (i+1)+1,left,Z)else uZ (a_ s) c step (s.size+1) (d_ (a_ s) (i+1)) left Z)):=by
 have aw:=dM (j_ s)
 have B:=dM ha
 have HI:=dM h
 have hr:=ha.rdr _ _ _ _ h
 obtain⟨d0,d1⟩:=hd
 obtain⟨⟨c0,c1,c2⟩,f0,f1,f2⟩:=hr.cells
 have F:Rdr (w.setCell ⟨D,1,none⟩ (.int .i64 ((i:Int)+1))) D s (i+1:Nat) (256-left):=Rdr.goes hr _
 have ay:=dM (ha.moved _ _ _ (i+1) _ _ h hi (ou w D 1 (.int .i64 ((i:Int)+1))) F)
 have X:=dM (wn D s (i+1) _ _ F hi (by omega))
 have N:=BQ _ (a_ s) (i+1) (dQ _) (by rw[j_];exact hi)
 rw[j_]at N
 obtain⟨k,hk⟩:=yaa (d_ (a_ s) (i+1))
 rw[←hk]at X N⊢
 have ah:=N.2
 have af:=dM (fun(W:World) (hr:Rdr W D s k (256-left))=>tk D s k _ W hr ah (by omega))
 clear ha h hr F hk N
 by_cases U:f_ (a_ s) k=c
 ·rw[dP U]
  rw[(BC ar).2 U]at af
  have M:(c==c)=true:=beq_self_eq_true c
  have aE:k<s.size:=by rw[←aw.out];exact oq (by omega)
  clear U
  go_enter func191,ntmps191
  go_wp2_with(first|(go_at_call 129;(with_reducible refine X.out.mono ?_);rintro e w1 ⟨rfl,ab,F⟩;have am:=dM (B.out.moved _ _ _ k _ _ ay.out ah ab F);have V:=dM F;obtain⟨⟨c0,c1,c2⟩,f0,f1,f2⟩:=Rdr.cells F;clear ab F)|(go_at_call 160;(with_reducible refine(af.out _ V.out).mono ?_);rintro e w' ⟨rfl,q,rfl⟩))
  go_end0
  exact⟨rfl,B.out.moved _ _ _ (k+1) _ _ am.out aE (oM _ q D 1 _) (Rdr.goes (V.out.drewN q) _)⟩
 ·rw[dN U]
  have aA:=G5 (l:=a_ s) (i:=k) ar U
  have az:(oQ (a_ s) k==c)=false:=by rw[dY];exact aA
  obtain⟨x,hx⟩:=yaa (oQ (a_ s) k)
  rw[←hx]at af az
  obtain⟨ag,ao⟩: ∃r,r=uZ (a_ s) c step (s.size+1) k left Z:=⟨_,rfl⟩
  rw[←ao]
  have aG:=dM ao
  clear U aA hx ao
  go_enter func191,ntmps191
  go_wp2_with(first|(go_at_call 129;(with_reducible refine X.out.mono ?_);rintro e w1 ⟨rfl,ab,F⟩;have am:=dM (B.out.moved _ _ _ k _ _ ay.out ah ab F);have V:=dM F;clear ab F)|(go_at_call 160;(with_reducible refine(af.out _ V.out).mono ?_);rintro e w' ⟨rfl,q,rfl⟩;have aD:=dM (B.out.moved _ _ _ k _ _ am.out ah (zL q _) (V.out.drewN q))))
  go_loopw[8] (fun m wr=>(∃(j:Nat) (I:Int) (t:α) (f:Nat),m= .bool true∧s.size<j+f∧Inv wr j I t∧ag=uZ (a_ s) c step f j I t)∨(∃(j:Nat) (I:Int) (t:α),m= .bool false∧Inv wr j I t∧ag= .inr (j,I,t))) (fun m wr=>match m with| .bool true=>s.size+1-D6 wr D|_=>0)
  case atStart=>exact .inl ⟨k,left,Z,s.size+1,rfl,by omega,aD.out,aG.out⟩
  case round=>
   clear ay am aD X af V HI c0 c1 c2 f0 f1 f2 az
   rcases hrel with⟨j,I,t,f,rfl,hf,G,O⟩|⟨j,I,t,rfl,G,O⟩
   ·obtain⟨l0,l1,aF⟩:=B.out.left _ _ _ _ G
    obtain⟨f,rfl⟩: ∃f',f=f'+1:=⟨f-1,by omega⟩
    have ak:=dM G
    have aC:=dM (Fy (B.out.rdr _ _ _ _ G))
    rw[uZ]at O
    obtain⟨T,hT⟩:=yaa (step j I t)
    rw[←hT]at O
    have HT:=dM hT
    have ai:=dM O
    clear G hT O
    rcases T with⟨p,er⟩|⟨E,Q,Y⟩
    ·have X:=dM (B.out.bad wr j I t p er ak.out HT.out.symm)
     go_wp2_with fail
     refine X.out.mono ?_
     rintro e w2 ⟨rfl,hR⟩
     have aI:=dM hR
     clear hR
     go_wp2
     rw[show ag= .inl (p,er)from ai.out]
     exact⟨rfl,rfl,aI.out⟩
    ·obtain⟨aN,aM⟩:=B.out.more _ _ _ _ _ _ aF l0 l1 HT.out.symm
     have HK:=dM (B.out.ok wr j I t E Q Y ak.out HT.out.symm)
     have av:Hid (ag=if f_ (a_ s) E=44 then uZ (a_ s) c step f (E+1) Q Y else if f_ (a_ s) E=c then .inr (E+1,Q,Y)else .inl (E,50)):=dM ai.out
     go_wp2_with fail
     refine HK.out.mono ?_
     rintro e w2 ⟨rfl,q,hq,N,G⟩
     have ax:=dM G
     obtain⟨aL,aK,_⟩:=B.out.left _ _ _ _ G
     have aq:=x9 D s q (256-Q) c w2 (B.out.rdr _ _ _ _ G) hq (by omega) ar hc
     rw[N]at aq
     have aJ:=dM aq
     clear G N aq
     go_wp2_with fail
     refine aJ.out.mono ?_
     rintro e w3 (⟨ad,rfl,L,aa⟩|⟨M,rfl,L,aa⟩|⟨ad,M,rfl,L⟩)
     ·have ap:E<s.size:=by rw[←aw.out];exact oq (by omega)
      have aj:=dM (B.out.moved _ _ _ (E+1) _ _ ax.out ap L aa)
      have ae:=dM (av.out.trans (dP ad))
      clear ad L aa
      go_wp2
      go_roundw
      case rel=>exact .inl ⟨E+1,Q,Y,f,rfl,by omega,aj.out,ae.out⟩
      case measure=>show s.size+1-D6 w3 D<s.size+1-D6 wr D;rw[Fy (B.out.rdr _ _ _ _ aj.out),aC.out];omega
     ·have ap:E<s.size:=by rw[←aw.out];exact oq (by rw[M];intro e;omega)
      have aj:=dM (B.out.moved _ _ _ (E+1) _ _ ax.out ap L aa)
      have ae:=dM (av.out.trans ((dN (fun h=>hc (M.symm.trans h))).trans (dP M)))
      clear M L aa
      go_wp2
      go_roundw
      case rel=>exact .inr ⟨E+1,Q,Y,rfl,aj.out,ae.out⟩
      case measure=>show 0<s.size+1-D6 wr D;rw[aC.out];omega
     ·have ae:=dM (av.out.trans ((dN ad).trans (dN M)))
      have aH:=dM (B.out.gone _ _ _ _ _ ax.out L)
      clear ad M L
      go_wp2
      rw[ae.out]
      exact⟨rfl,rfl,aH.out⟩
   ·have ai:=dM O
    have ak:=dM G
    clear O G
    go_wp2
    go_end0
    rw[ai.out]
    exact⟨rfl,ak.out⟩
def ValPost (w:World) (rb:Nat) (s:ByteArray) (r:VR) (e:Ending) (w':World):Prop:=
 (r.2.2.2=0∧ ∃v q,e= .returned v∧RepS w' (fun b=>w.heap.size≤b) r.1 v∧q≤s.size∧d_ (a_ s) q=r.2.1∧pv w w' rb s (q:Nat) (256-r.2.2.1))∨(r.2.2.2≠0∧zF w rb (r.2.1:Nat) r.2.2.2 e w')
def BL (s:ByteArray) (rb d:Nat):Prop:= ∀(i:Nat) (left:Int) (w:World),i≤s.size→0≤left→left≤256→Rdr w rb s i (256-left)→GW w rb→
 Calls prog 128 #[.pointer (some ⟨rb,0,none⟩),.int .i64 (9-(d:Int))] w (ValPost w rb s (nj (a_ s) d (d_ (a_ s) i) left))
structure LInv (W wr:World) (rb:Nat) (s:ByteArray) (dep:Int) (vs:List J) (xs:List Value) (vL:Value) (i n:Int):Prop where
 c2:Blk wr W.heap.size 227 [.pointer (some ⟨rb,0,none⟩)]
 c3:Blk wr (W.heap.size+1) 3 [.int .i64 dep]
 c4:Blk wr (W.heap.size+2) 63 zeros5
 c5:Blk wr (W.heap.size+3) 63 [.int .i64 4,.int .i64 0,.string ⟨#[]⟩,vL,.slice none 0 0]
 own:wr.ownsRow (W.heap.size+4) 63 5 vL vs.length xs
 flat:FlatJ wr (fun b=>W.heap.size+4≤b∧vL.ownBlock≠some b) vs xs
 gr:W.grownBy wr (some rb)
 lt:rb<W.heap.size
 sz:W.heap.size+4≤wr.heap.size
 rdr:Rdr wr rb s i n
theorem LInv.moved {W wr D:World} {B:Nat} {s:ByteArray} {G:Int} {vs:List J} {xs:List Value} {E:Value} {i n j m:Int} (h:LInv W wr B s G vs xs E i n) (q:wr.grownBy D (some B)) (I:Rdr D B s j m):LInv W D B s G vs xs E j m:=by
 have lt:=h.lt
 have ne: ∀k,W.heap.size≤k→some k≠some B:=fun k M e=>by injection e with e;omega
 refine⟨h.c2.grown q (ne _ (dQ _)),h.c3.grown q (ne _ (by omega)),h.c4.grown q (ne _ (by omega)),h.c5.grown q (ne _ (by omega)),h.own.kept q ?_,?_,h.gr.trans q,lt,dV h.sz q.size,I⟩
 ·cases hv:E.ownBlock with
  |none=>exact .inl rfl
  |some g=>exact .inr (fun e=>by injection e with e;have:=(h.own.lt g hv).1;omega)
 ·exact h.flat.keeps ⟨q.size,fun b F L=>q.block b L (ne b (by have:=F.1;omega))⟩ (fun b F _=>F)
theorem ul {q:World} {base g L n:Nat} {e:TypeId} {xs:List Value} {z0 E D z3 z4 c0 c1 c2 c3 c4:Value} (M:xs.length=n*5) (h:q.ownsRow base e 5 (.slice (some ⟨g,0,none⟩) (n+1) L) (n+1) (xs++[z0,E,D,z3,z4])):
  (((((q.setCell ⟨g,n*5,none⟩ c0).setCell ⟨g,n*5+1,none⟩ c1).setCell ⟨g,n*5+2,none⟩ c2).setCell ⟨g,n*5+3,none⟩ c3).setCell ⟨g,n*5+4,none⟩ c4).ownsRow base e 5 (.slice (some ⟨g,0,none⟩) (n+1) L) (n+1) (xs++[c0,c1,c2,c3,c4])∧
  q.grownBy (((((q.setCell ⟨g,n*5,none⟩ c0).setCell ⟨g,n*5+1,none⟩ c1).setCell ⟨g,n*5+2,none⟩ c2).setCell ⟨g,n*5+3,none⟩ c3).setCell ⟨g,n*5+4,none⟩ c4) (some g):=by
 have h1:=h.stored (n*5) c0
 have I:=h1.1.stored (n*5+1) c1
 have G:=I.1.stored (n*5+2) c2
 have F:=G.1.stored (n*5+3) c3
 have B:=F.1.stored (n*5+4) c4
 have e:(((((xs++[z0,E,D,z3,z4]).set (n*5) c0).set (n*5+1) c1).set (n*5+2) c2).set (n*5+3) c3).set (n*5+4) c4=xs++[c0,c1,c2,c3,c4]:=by
  rw[←M]
  simp[List.set_append]
 rw[e]at B
 exact⟨B.1,(((h1.2.trans I.2).trans G.2).trans F.2).trans B.2⟩
theorem LInv.add {W wr E Q:World} {I:Nat} {s:ByteArray} {V:Int} {vs:List J} {xs:List Value} {G:Value} {i n j m:Int} {x:J} {z0 z1 z2 z3 z4 c0 c1 c2 c3 c4:Value} {g N:Nat} (h:LInv W wr I s V vs xs G i n) (h4:wr.grownBy E (some I)) (X:Rdr E I s j m)
  (hx:RepS E (fun b=>wr.heap.size≤b) x (.agg #[c0,c1,c2,c3,c4])) (D:E.grownBy Q G.ownBlock) (ab:Q.ownsRow (W.heap.size+4) 63 5 (.slice (some ⟨g,0,none⟩) (vs.length+1) N) (vs.length+1) (xs++[z0,z1,z2,z3,z4])) (U:G.ownBlock=some g∨E.heap.size≤g):
  LInv W ((((((Q.setCell ⟨g,vs.length*5,none⟩ c0).setCell ⟨g,vs.length*5+1,none⟩ c1).setCell ⟨g,vs.length*5+2,none⟩ c2).setCell ⟨g,vs.length*5+3,none⟩ c3).setCell ⟨g,vs.length*5+4,none⟩ c4).setCell ⟨W.heap.size+3,3,none⟩ (.slice (some ⟨g,0,none⟩) (vs.length+1) N)) I s V (vs++[x]) (xs++[c0,c1,c2,c3,c4]) (.slice (some ⟨g,0,none⟩) (vs.length+1) N) j m:=by
 have q:=h.moved h4 X
 obtain⟨Z,F⟩:=ul (c0:=c0) (c1:=c1) (c2:=c2) (c3:=c3) (c4:=c4) q.own.1 ab
 generalize ((((Q.setCell ⟨g,vs.length*5,none⟩ c0).setCell ⟨g,vs.length*5+1,none⟩ c1).setCell ⟨g,vs.length*5+2,none⟩ c2).setCell ⟨g,vs.length*5+3,none⟩ c3).setCell ⟨g,vs.length*5+4,none⟩ c4=w6 at Z F⊢
 have M:=ou w6 (W.heap.size+3) 3 (.slice (some ⟨g,0,none⟩) (vs.length+1) N)
 have lt:=h.lt
 have ae:W.heap.size+4≤g:=(ab.lt g rfl).1
 have lL:=fun k B=>(q.own.lt k B).1
 have s4:=q.sz
 have O: ∀k,k<E.heap.size→k<W.heap.size+4→k≠W.heap.size+3→(w6.setCell ⟨W.heap.size+3,3,none⟩ (.slice (some ⟨g,0,none⟩) (vs.length+1) N)).heap[k]? =E.heap[k]? :=fun k B h1 Y=>by
  rw[M.block k (dX B (dV D.size F.size)) (by intro e;injection e with e;exact Y e),F.block k (dX B D.size) (by intro e;injection e with e;omega)]
  exact D.block k B (fun e=>by have:=lL k e.symm;omega)
 have aa: ∀b,b<E.heap.size→W.heap.size+4≤b→G.ownBlock≠some b→b≠g→(w6.setCell ⟨W.heap.size+3,3,none⟩ (.slice (some ⟨g,0,none⟩) (vs.length+1) N)).heap[b]? =E.heap[b]? :=fun b B h1 Y L=>by
  rw[M.block b (dX B (dV D.size F.size)) (by intro e;injection e with e;omega),F.block b (dX B D.size) (by intro e;injection e with e;exact L e)]
  exact D.block b B (fun e=>Y e.symm)
 have R:E.heap.size≤(w6.setCell ⟨W.heap.size+3,3,none⟩ (.slice (some ⟨g,0,none⟩) (vs.length+1) N)).heap.size:=dV D.size (dV F.size M.size)
 refine⟨(O _ (by omega) (by omega) (by omega)).trans q.c2,(O _ (by omega) (by omega) (by omega)).trans q.c3,(O _ (by omega) (by omega) (by omega)).trans q.c4,?_,?_,?_,?_,lt,dV s4 R,(O I X.lt (by omega) (by omega)).trans X⟩
 ·have:Blk w6 (W.heap.size+3) 63 [.int .i64 4,.int .i64 0,.string ⟨#[]⟩,G,.slice none 0 0]:=
   ((q.c5.grown D (fun e=>by have:=lL _ e.symm;omega))).grown F (by intro e;injection e with e;omega)
  exact this.setCell 3 _
 ·rw[dS]
  exact Z.kept M (.inr (by simp[Value.ownBlock];omega))
 ·refine FlatJ.snoc ?_ ?_
  ·refine RepS.keeps (S:=fun b=>wr.heap.size≤b) ⟨R,fun b h1 L=> ?_⟩ (fun b h1 L=> ?_) _ _ hx
   ·replace h1:wr.heap.size≤b:=h1
    have hs:=h.sz
    refine aa b L (by omega) (fun e=>by have:=(h.own.lt b e).2;omega) (fun e=> ?_)
    rcases U with h|h
    ·have:=(‹LInv W wr I s V vs xs G i n›.own.lt g h).2;omega
    ·omega
   ·replace h1:wr.heap.size≤b:=h1
    have hs:=h.sz
    refine⟨by omega,fun e=> ?_⟩
    have e:g=b:=by simpa[Value.ownBlock]using e
    rcases U with h|h
    ·have:=(‹LInv W wr I s V vs xs G i n›.own.lt g h).2;omega
    ·omega
  ·refine q.flat.keeps ⟨R,fun b h1 L=> ?_⟩ (fun b h1 L=> ?_)
   ·refine aa b L h1.1 h1.2 (fun e=> ?_)
    rcases U with h|h
    ·exact h1.2 (by rw[h,e])
    ·omega
   ·refine⟨h1.1,fun e=> ?_⟩
    have e:g=b:=by simpa[Value.ownBlock]using e
    rcases U with h|h
    ·exact h1.2 (by rw[h,e])
    ·omega
 ·refine⟨?_,?_,?_,dV q.gr.size R,fun k B ad=> ?_⟩
  ·exact(M.os.trans (F.os.trans (D.os))).trans q.gr.os
  ·exact(M.tape.trans (F.tape.trans (D.tape))).trans q.gr.tape
  ·exact(M.output.trans (F.output.trans (D.output))).trans q.gr.output
  ·exact(O k (dX B q.gr.size) (by omega) (by omega)).trans (q.gr.block k B ad)
theorem ss:(prog.info? 63).map (fun i=>(i.zero,i.size,i.bytes))=some (some (.agg zeros5.toArray),5,80):=by kernel_rfl
abbrev mU:Obj:= .cells #[.int .i64 0,.int .i64 0,.string ⟨#[]⟩,.slice none 0 0,.slice none 0 0] 63
theorem nl {w w':World} {b o:Nat} {v:Value} {row:Option Nat} (h:w.cell? ⟨b,o,none⟩=some v) (B:w.grownBy w' row) (q:some b≠row):w'.cell? ⟨b,o,none⟩=some v:=B.cell h q
theorem F8 {w:World} {base g E n size:Nat} {e:TypeId} {xs:List Value} (h:w.ownsRow base e size (.slice (some ⟨g,0,none⟩) n E) n xs) (o:Nat):w.frozen? ⟨g,o,none⟩=false:=by
 rcases h.2 with⟨q,_⟩|⟨G,I,D,q,F,B,_⟩
 ·simp at q
 ·simp only[Value.slice.injEq,Option.some.injEq,Addr.mk.injEq,jq,true_and]at q
  obtain⟨rfl,rfl⟩:=q
  exact frozen_of_row w g o D e B
theorem Ie (w:World) {b c:Nat} (h: ¬b=c) (o p:Nat) (x y:Value):(w.setCell ⟨b,o,none⟩ x).setCell ⟨c,p,none⟩ y=(w.setCell ⟨c,p,none⟩ y).setCell ⟨b,o,none⟩ x:=by
 unfold World.setCell
 simp only[World.mk.injEq,true_and,jq]
 refine Array.ext_getElem? fun i=> ?_
 simp only[Array.getElem?_modify]
 by_cases h1:b=i
 ·by_cases q:c=i
  ·exact absurd (h1.trans q.symm) h
  ·simp[h1,q]
 ·by_cases q:c=i
  ·simp[h1,q]
  ·simp[h1,q]
theorem Ev (w:World) {b g:Nat} (h: ¬b=g) {o F E D B q:Nat} (v c0 c1 c2 c3 c4:Value):
  ((((((w.setCell ⟨b,o,none⟩ v).setCell ⟨g,F,none⟩ c0).setCell ⟨g,E,none⟩ c1).setCell ⟨g,D,none⟩ c2).setCell ⟨g,B,none⟩ c3).setCell ⟨g,q,none⟩ c4)=((((((w.setCell ⟨g,F,none⟩ c0).setCell ⟨g,E,none⟩ c1).setCell ⟨g,D,none⟩ c2).setCell ⟨g,B,none⟩ c3).setCell ⟨g,q,none⟩ c4).setCell ⟨b,o,none⟩ v):=by
 rw[Ie w h,Ie _ h,Ie _ h,Ie _ h,Ie _ h]
structure KeyP (G:Prop):Prop where
 out:G
theorem IP {G R:Prop} (h:KeyP G→R) (g:G):R:=h ⟨g⟩
def Bu (wr w4:World) (rb:Nat) (s:ByteArray) (x:J) (q p:Nat) (m:Int) (v:Value) (lb:Nat):Prop:=
 wr.grownBy w4 (some rb)∧Rdr w4 rb s (q:Nat) m∧RepS w4 (fun b=>wr.heap.size≤b) x v∧w4.heap[lb]? =some mU∧q≤s.size∧d_ (a_ s) q=p
def DS (W:World) (rb:Nat) (s:ByteArray) (dep:Int) (vs:List J) (x:J) (p:Nat) (n:Int) (e:Ending) (w':World):Prop:=
 ∃xs vL q,e= .returned (.tuple #[])∧q≤s.size∧d_ (a_ s) q=p∧LInv W w' rb s dep (vs++[x]) xs vL (q:Nat) n
theorem C5 (W wr:World) (D:Nat) (s:ByteArray) (F:Int) (Z:0≤F∧F≤9) (vs:List J) (xs:List Value) (U:Value) (i n p er:Int) (h:LInv W wr D s F vs xs U i n)
  (V: ∀w,Rdr w D s i n→wr.grownBy w (some D)→Calls prog 128 #[.pointer (some ⟨D,0,none⟩),.int .i64 (F+1)] w (fun e w'=>e= .panicked (v7 p er)∧w.grownBy w' (some D))):
  Calls prog 192 #[.pointer (some ⟨W.heap.size+3,0,none⟩),.pointer (some ⟨W.heap.size,0,none⟩),.pointer (some ⟨W.heap.size+1,0,none⟩)] wr (fun e w'=>e= .panicked (v7 p er)∧W.grownBy w' (some D)):=by
 obtain⟨M,c0,rfl⟩: ∃M c0,U= .slice M vs.length c0:=by
  rcases h.own.2 with⟨e,h0⟩|⟨_,aa,_,e,_⟩
  ·exact⟨none,0,by rw[e,h0]⟩
  ·exact⟨_,aa,e⟩
 have B:=dM h
 have G:=dM V
 have ad:=h.lt
 have ab:=h.sz
 have R:wr.cell? ⟨W.heap.size,0,none⟩=some (.pointer (some ⟨D,0,none⟩)):=h.c2.cell 0
 have Q:wr.cell? ⟨W.heap.size+1,0,none⟩=some (.int .i64 F):=h.c3.cell 0
 have Y:wr.cell? ⟨W.heap.size+3,3,none⟩=some (.slice M vs.length c0):=h.c5.cell 3
 have O:(wr.alloc mU).cell? ⟨W.heap.size,0,none⟩=some (.pointer (some ⟨D,0,none⟩)):=(dO wr mU none).cell R (by simp)
 have N:(wr.alloc mU).cell? ⟨W.heap.size+1,0,none⟩=some (.int .i64 F):=(dO wr mU none).cell Q (by simp)
 have l5:(wr.alloc mU).cell? ⟨W.heap.size+3,3,none⟩=some (.slice M vs.length c0):=(dO wr mU none).cell Y (by simp)
 obtain⟨d0,d1⟩:=Z
 have hw:IntKind.i64.wrap (F+1)=F+1:=by rw[es];omega
 clear h V
 go_enter func192,ntmps192
 refine fh (S:=fun X=>X.cell? ⟨W.heap.size,0,none⟩=some (.pointer (some ⟨D,0,none⟩))∧X.cell? ⟨W.heap.size+1,0,none⟩=some (.int .i64 F)) (by kernel_rfl) ⟨R,Q⟩ (fun L=> ?_)
 refine qi 0 ?_
 try simp only[k_]
 refine qi 2 ?_
 try simp only[k_]
 refine qi 3 ?_
 try simp only[k_]
 refine qi 4 ?_
 try simp only[k_]
 refine eO (rs:=[1,5,7]) (by kernel_rfl) (by simp) ?_
 refine en rfl (fun K q=> ?_) ?_
 ·skip
  go_simp
  refine q.out _ _ ⟨R,Q⟩ (fun L=> ?_)
  clear q K
  try simp only[k_]
  refine qi 6 ?_
  try simp only[k_]
  refine eO (rs:=[5,7]) (by kernel_rfl) (by simp) ?_
  refine en rfl (fun K q=> ?_) ?_
  ·skip
   go_simp
   go_at_call 128
   (with_reducible refine(G.out _ (Blk.drew B.out.rdr) (nx (ov wr _))).mono ?_)
   rintro e I ⟨rfl,E⟩
   exact⟨rfl,rfl,B.out.gr.trans ((nx (ov wr _)).trans E)⟩
  refine en rfl (fun K q=> ?_) eM
  go_simp
  refine q.out _ _ ⟨O,N⟩ (fun L=> ?_)
  clear q K
  try simp only[k_]
  refine eO (rs:=[5]) (by kernel_rfl) (by simp) ?_
  refine en rfl (fun K q=> ?_) eM
  go_simp
  go_at_call 128
  (with_reducible refine(G.out _ (Blk.drew (Blk.grownN B.out.rdr (dO wr mU none))) (nx (dO wr mU _))).mono ?_)
  rintro e I ⟨rfl,E⟩
  exact⟨rfl,rfl,B.out.gr.trans ((nx (dO wr mU _)).trans E)⟩
 refine en rfl (fun K q=> ?_) ?_
 ·skip
  go_simp
  go_at_call 128
  (with_reducible refine(G.out _ (Blk.drew B.out.rdr) (nx (ov wr _))).mono ?_)
  rintro e I ⟨rfl,E⟩
  exact⟨rfl,rfl,B.out.gr.trans ((nx (ov wr _)).trans E)⟩
 refine en rfl (fun K q=> ?_) eM
 go_simp
 refine q.out _ _ ⟨O,N⟩ (fun L=> ?_)
 clear q K
 try simp only[k_]
 refine eO (rs:=[1,5]) (by kernel_rfl) (by simp) ?_
 refine en rfl (fun K q=> ?_) ?_
 ·skip
  go_simp
  refine q.out _ _ ⟨O,N⟩ (fun L=> ?_)
  clear q K
  try simp only[k_]
  refine qi 6 ?_
  try simp only[k_]
  refine eO (rs:=[5]) (by kernel_rfl) (by simp) ?_
  refine en rfl (fun K q=> ?_) eM
  go_simp
  go_at_call 128
  (with_reducible refine(G.out _ (Blk.drew (Blk.grownN B.out.rdr (dO wr mU none))) (nx (dO wr mU _))).mono ?_)
  rintro e I ⟨rfl,E⟩
  exact⟨rfl,rfl,B.out.gr.trans ((nx (dO wr mU _)).trans E)⟩
 refine en rfl (fun K q=> ?_) eM
 go_simp
 go_at_call 128
 (with_reducible refine(G.out _ (Blk.drew (Blk.grownN B.out.rdr (dO wr mU none))) (nx (dO wr mU _))).mono ?_)
 rintro e I ⟨rfl,E⟩
 exact⟨rfl,rfl,B.out.gr.trans ((nx (dO wr mU _)).trans E)⟩
theorem EV (W wr:World) (F:Nat) (s:ByteArray) (aa:Int) (hd:0≤aa∧aa≤9) (vs:List J) (xs:List Value) (vL:Value) (aX:vs.length≤10000) (i n m:Int) (x:J) (p:Nat) (h:LInv W wr F s aa vs xs vL i n)
  (hv: ∀w,Rdr w F s i n→wr.grownBy w (some F)→Calls prog 128 #[.pointer (some ⟨F,0,none⟩),.int .i64 (aa+1)] w (fun e w'=> ∃v q,e= .returned v∧RepS w' (fun b=>w.heap.size≤b) x v∧q≤s.size∧d_ (a_ s) q=p∧pv w w' F s (q:Nat) m)):
  Calls prog 192 #[.pointer (some ⟨W.heap.size+3,0,none⟩),.pointer (some ⟨W.heap.size,0,none⟩),.pointer (some ⟨W.heap.size+1,0,none⟩)] wr (DS W F s aa vs x p m):=by
 obtain⟨A0,c0,rfl⟩: ∃A0 c0,vL= .slice A0 vs.length c0:=by
  rcases h.own.2 with⟨e,h0⟩|⟨_,ax,_,e,_⟩
  ·exact⟨none,0,by rw[e,h0]⟩
  ·exact⟨_,ax,e⟩
 have HI:=dM h
 have HV:=dM hv
 have aC:=h.lt
 have aY:=h.sz
 have k2:wr.cell? ⟨W.heap.size,0,none⟩=some (.pointer (some ⟨F,0,none⟩)):=h.c2.cell 0
 have k3:wr.cell? ⟨W.heap.size+1,0,none⟩=some (.int .i64 aa):=h.c3.cell 0
 have k5:wr.cell? ⟨W.heap.size+3,3,none⟩=some (.slice A0 vs.length c0):=h.c5.cell 3
 have l2:(wr.alloc mU).cell? ⟨W.heap.size,0,none⟩=some (.pointer (some ⟨F,0,none⟩)):=(dO wr mU none).cell k2 (by simp)
 have l3:(wr.alloc mU).cell? ⟨W.heap.size+1,0,none⟩=some (.int .i64 aa):=(dO wr mU none).cell k3 (by simp)
 have l5:(wr.alloc mU).cell? ⟨W.heap.size+3,3,none⟩=some (.slice A0 vs.length c0):=(dO wr mU none).cell k5 (by simp)
 obtain⟨d0,d1⟩:=hd
 have hw:IntKind.i64.wrap (aa+1)=aa+1:=by rw[es];omega
 have aW:=dM h.own.1
 obtain⟨iJ,hJ,aJ,aI,aH⟩:=gw ss
 clear h hv
 go_enter func192,ntmps192
 refine fh (S:=fun X=>X.cell? ⟨W.heap.size,0,none⟩=some (.pointer (some ⟨F,0,none⟩))∧X.cell? ⟨W.heap.size+1,0,none⟩=some (.int .i64 aa)) (by kernel_rfl) ⟨k2,k3⟩ (fun aK=> ?_)
 refine qi 0 ?_
 try simp only[k_]
 refine qi 2 ?_
 try simp only[k_]
 refine qi 3 ?_
 try simp only[k_]
 refine qi 4 ?_
 try simp only[k_]
 apply IP
 ·intro ar
  refine eO (rs:=[1,5,7]) (by kernel_rfl) (by simp) ?_
  refine en rfl (fun K D=> ?_) ?_
  ·skip
   go_simp
   refine D.out _ _ ⟨k2,k3⟩ (fun bd=> ?_)
   clear D K
   try simp only[k_]
   refine qi 6 ?_
   try simp only[k_]
   refine eO (rs:=[5,7]) (by kernel_rfl) (by simp) ?_
   refine en rfl (fun K D=> ?_) ?_
   ·skip
    go_simp
    go_at_call 128
    (with_reducible refine(HV.out _ (Blk.drew HI.out.rdr) (nx (ov wr _))).mono ?_)
    rintro e B ⟨v,q,rfl,V,hq,ak,ab,am⟩
    obtain⟨vk,A,R,rfl, -,⟨U,Q,rfl, -, -⟩, -, -⟩:=V.open
    obtain⟨O,ai⟩: ∃a,a=x.kind:=⟨_,rfl⟩
    obtain⟨N,ah⟩: ∃a,a=x.n:=⟨_,rfl⟩
    obtain⟨M,ag⟩: ∃a,a=x.s:=⟨_,rfl⟩
    obtain⟨L,af⟩: ∃a,a=x.l.length:=⟨_,rfl⟩
    obtain⟨I,ae⟩: ∃a,a=x.k.length:=⟨_,rfl⟩
    rw[←ai,←ah,←ag,←af,←ae]at V⊢
    clear ai ah ag af ae
    have E:=dM ((nx (ov wr _)).trans ab)
    have HX:Hid (RepS B (fun b=>wr.heap.size≤b) x (.agg #[.int .i64 O,.int .i64 N,.string M,.slice A L R,.slice U I Q])):=dM (RepS.keeps (Keeps.refl _ B) (fun b (h:_≤b) _=>show wr.heap.size≤b from dV (jR (row:=some F) (nx (ov wr _))) h) _ _ V)
    have Y:=dM (And.intro hq ak)
    have ad:=dM am
    clear V hq ak ab am
    have m2:(B).cell? ⟨W.heap.size,0,none⟩=some (.pointer (some ⟨F,0,none⟩)):=nl k2 E.out (by intro e;injection e with e<;>omega)
    have Z:(B).cell? ⟨W.heap.size+1,0,none⟩=some (.int .i64 aa):=nl k3 E.out (by intro e;injection e with e<;>omega)
    have m5:(B).cell? ⟨W.heap.size+3,3,none⟩=some (.slice A0 vs.length c0):=nl k5 E.out (by intro e;injection e with e<;>omega)
    refine D.out _ _ ⟨m2,Z⟩ (fun aU=> ?_)
    clear D K
    try simp only[k_]
    refine eO (rs:=[7]) (by kernel_rfl) (by simp) ?_
    refine en rfl (fun K D=> ?_) eM
    go_simp
    have n2:(B.alloc mU).cell? ⟨W.heap.size,0,none⟩=some (.pointer (some ⟨F,0,none⟩)):=nl k2 (E.out.trans (dO B mU (some F))) (by intro e;injection e with e<;>omega)
    have n3:(B.alloc mU).cell? ⟨W.heap.size+1,0,none⟩=some (.int .i64 aa):=nl k3 (E.out.trans (dO B mU (some F))) (by intro e;injection e with e<;>omega)
    have n5:(B.alloc mU).cell? ⟨W.heap.size+3,3,none⟩=some (.slice A0 vs.length c0):=nl k5 (E.out.trans (dO B mU (some F))) (by intro e;injection e with e<;>omega)
    refine D.out _ _ ⟨n2,n3⟩ (fun aT=> ?_)
    clear D K
    try simp only[k_]
    have G:Hid (Bu wr (B.alloc mU) F s x q p m (.agg #[.int .i64 O,.int .i64 N,.string M,.slice A L R,.slice U I Q]) B.heap.size):=dM ⟨E.out.trans (dO B mU _),Blk.grownN ad.out (dO B mU none),RepS.keeps (Keeps.grown (dO B mU none) (fun b _ e=>by cases e)) (fun _ h _=>h) _ _ HX.out,eC B mU,Y.out.1,Y.out.2⟩
    clear E ad HX Y m2 Z m5 n2 n3 n5 aU aT
    generalize B.heap.size=lb at G⊢
    generalize B.alloc mU=w4 at G⊢
    revert G;revert lb;revert w4;revert q;revert O;revert N;revert M;revert L;revert I;revert A;revert R;revert U;revert Q
    exact ar.out
   refine en rfl (fun K D=> ?_) eM
   go_simp
   refine D.out _ _ ⟨l2,l3⟩ (fun bc=> ?_)
   clear D K
   try simp only[k_]
   refine eO (rs:=[5]) (by kernel_rfl) (by simp) ?_
   refine en rfl (fun K D=> ?_) eM
   go_simp
   go_at_call 128
   (with_reducible refine(HV.out _ (Blk.drew (Blk.grownN HI.out.rdr (dO wr mU none))) (nx (dO wr mU _))).mono ?_)
   rintro e B ⟨v,q,rfl,V,hq,ak,ab,am⟩
   obtain⟨vk,A,R,rfl, -,⟨U,Q,rfl, -, -⟩, -, -⟩:=V.open
   obtain⟨O,ai⟩: ∃a,a=x.kind:=⟨_,rfl⟩
   obtain⟨N,ah⟩: ∃a,a=x.n:=⟨_,rfl⟩
   obtain⟨M,ag⟩: ∃a,a=x.s:=⟨_,rfl⟩
   obtain⟨L,af⟩: ∃a,a=x.l.length:=⟨_,rfl⟩
   obtain⟨I,ae⟩: ∃a,a=x.k.length:=⟨_,rfl⟩
   rw[←ai,←ah,←ag,←af,←ae]at V⊢
   clear ai ah ag af ae
   have E:=dM ((nx (dO wr mU _)).trans ab)
   have HX:Hid (RepS B (fun b=>wr.heap.size≤b) x (.agg #[.int .i64 O,.int .i64 N,.string M,.slice A L R,.slice U I Q])):=dM (RepS.keeps (Keeps.refl _ B) (fun b (h:_≤b) _=>show wr.heap.size≤b from dV (jR (row:=some F) (nx (dO wr mU _))) h) _ _ V)
   have Y:=dM (And.intro hq ak)
   have ad:=dM am
   have ap:Hid (B.heap[wr.heap.size]? =some mU):=dM ((ab.block wr.heap.size (by simp) (by intro e;injection e with e<;>omega)).trans (eC wr mU))
   clear V hq ak ab am
   have m2:(B).cell? ⟨W.heap.size,0,none⟩=some (.pointer (some ⟨F,0,none⟩)):=nl k2 E.out (by intro e;injection e with e<;>omega)
   have Z:(B).cell? ⟨W.heap.size+1,0,none⟩=some (.int .i64 aa):=nl k3 E.out (by intro e;injection e with e<;>omega)
   have m5:(B).cell? ⟨W.heap.size+3,3,none⟩=some (.slice A0 vs.length c0):=nl k5 E.out (by intro e;injection e with e<;>omega)
   refine D.out _ _ ⟨m2,Z⟩ (fun aS=> ?_)
   clear D K
   try simp only[k_]
   have G:Hid (Bu wr B F s x q p m (.agg #[.int .i64 O,.int .i64 N,.string M,.slice A L R,.slice U I Q]) wr.heap.size):=dM ⟨E.out,ad.out,HX.out,ap.out,Y.out.1,Y.out.2⟩
   clear E ad HX ap Y m2 Z m5 aS
   generalize wr.heap.size=lb at G⊢
   revert G;revert lb;revert B;revert q;revert O;revert N;revert M;revert L;revert I;revert A;revert R;revert U;revert Q
   exact ar.out
  refine en rfl (fun K D=> ?_) ?_
  ·skip
   go_simp
   go_at_call 128
   (with_reducible refine(HV.out _ (Blk.drew HI.out.rdr) (nx (ov wr _))).mono ?_)
   rintro e B ⟨v,q,rfl,V,hq,ak,ab,am⟩
   obtain⟨vk,A,R,rfl, -,⟨U,Q,rfl, -, -⟩, -, -⟩:=V.open
   obtain⟨O,ai⟩: ∃a,a=x.kind:=⟨_,rfl⟩
   obtain⟨N,ah⟩: ∃a,a=x.n:=⟨_,rfl⟩
   obtain⟨M,ag⟩: ∃a,a=x.s:=⟨_,rfl⟩
   obtain⟨L,af⟩: ∃a,a=x.l.length:=⟨_,rfl⟩
   obtain⟨I,ae⟩: ∃a,a=x.k.length:=⟨_,rfl⟩
   rw[←ai,←ah,←ag,←af,←ae]at V⊢
   clear ai ah ag af ae
   have E:=dM ((nx (ov wr _)).trans ab)
   have HX:Hid (RepS B (fun b=>wr.heap.size≤b) x (.agg #[.int .i64 O,.int .i64 N,.string M,.slice A L R,.slice U I Q])):=dM (RepS.keeps (Keeps.refl _ B) (fun b (h:_≤b) _=>show wr.heap.size≤b from dV (jR (row:=some F) (nx (ov wr _))) h) _ _ V)
   have Y:=dM (And.intro hq ak)
   have ad:=dM am
   clear V hq ak ab am
   have m2:(B).cell? ⟨W.heap.size,0,none⟩=some (.pointer (some ⟨F,0,none⟩)):=nl k2 E.out (by intro e;injection e with e<;>omega)
   have Z:(B).cell? ⟨W.heap.size+1,0,none⟩=some (.int .i64 aa):=nl k3 E.out (by intro e;injection e with e<;>omega)
   have m5:(B).cell? ⟨W.heap.size+3,3,none⟩=some (.slice A0 vs.length c0):=nl k5 E.out (by intro e;injection e with e<;>omega)
   refine D.out _ _ ⟨m2,Z⟩ (fun aE=> ?_)
   clear D K
   try simp only[k_]
   refine eO (rs:=[1,7]) (by kernel_rfl) (by simp) ?_
   refine en rfl (fun K D=> ?_) ?_
   ·skip
    go_simp
    refine D.out _ _ ⟨m2,Z⟩ (fun aR=> ?_)
    clear D K
    try simp only[k_]
    refine qi 6 ?_
    try simp only[k_]
    refine eO (rs:=[7]) (by kernel_rfl) (by simp) ?_
    refine en rfl (fun K D=> ?_) eM
    go_simp
    have n2:(B.alloc mU).cell? ⟨W.heap.size,0,none⟩=some (.pointer (some ⟨F,0,none⟩)):=nl k2 (E.out.trans (dO B mU (some F))) (by intro e;injection e with e<;>omega)
    have n3:(B.alloc mU).cell? ⟨W.heap.size+1,0,none⟩=some (.int .i64 aa):=nl k3 (E.out.trans (dO B mU (some F))) (by intro e;injection e with e<;>omega)
    have n5:(B.alloc mU).cell? ⟨W.heap.size+3,3,none⟩=some (.slice A0 vs.length c0):=nl k5 (E.out.trans (dO B mU (some F))) (by intro e;injection e with e<;>omega)
    refine D.out _ _ ⟨n2,n3⟩ (fun aQ=> ?_)
    clear D K
    try simp only[k_]
    have G:Hid (Bu wr (B.alloc mU) F s x q p m (.agg #[.int .i64 O,.int .i64 N,.string M,.slice A L R,.slice U I Q]) B.heap.size):=dM ⟨E.out.trans (dO B mU _),Blk.grownN ad.out (dO B mU none),RepS.keeps (Keeps.grown (dO B mU none) (fun b _ e=>by cases e)) (fun _ h _=>h) _ _ HX.out,eC B mU,Y.out.1,Y.out.2⟩
    clear E ad HX Y m2 Z m5 n2 n3 n5 aE aR aQ
    generalize B.heap.size=lb at G⊢
    generalize B.alloc mU=w4 at G⊢
    revert G;revert lb;revert w4;revert q;revert O;revert N;revert M;revert L;revert I;revert A;revert R;revert U;revert Q
    exact ar.out
   refine en rfl (fun K D=> ?_) eM
   go_simp
   have n2:(B.alloc mU).cell? ⟨W.heap.size,0,none⟩=some (.pointer (some ⟨F,0,none⟩)):=nl k2 (E.out.trans (dO B mU (some F))) (by intro e;injection e with e<;>omega)
   have n3:(B.alloc mU).cell? ⟨W.heap.size+1,0,none⟩=some (.int .i64 aa):=nl k3 (E.out.trans (dO B mU (some F))) (by intro e;injection e with e<;>omega)
   have n5:(B.alloc mU).cell? ⟨W.heap.size+3,3,none⟩=some (.slice A0 vs.length c0):=nl k5 (E.out.trans (dO B mU (some F))) (by intro e;injection e with e<;>omega)
   refine D.out _ _ ⟨n2,n3⟩ (fun aP=> ?_)
   clear D K
   try simp only[k_]
   refine eO (rs:=[1]) (by kernel_rfl) (by simp) ?_
   refine en rfl (fun K D=> ?_) eM
   go_simp
   refine D.out _ _ ⟨n2,n3⟩ (fun aO=> ?_)
   clear D K
   try simp only[k_]
   refine qi 6 ?_
   try simp only[k_]
   have G:Hid (Bu wr (B.alloc mU) F s x q p m (.agg #[.int .i64 O,.int .i64 N,.string M,.slice A L R,.slice U I Q]) B.heap.size):=dM ⟨E.out.trans (dO B mU _),Blk.grownN ad.out (dO B mU none),RepS.keeps (Keeps.grown (dO B mU none) (fun b _ e=>by cases e)) (fun _ h _=>h) _ _ HX.out,eC B mU,Y.out.1,Y.out.2⟩
   clear E ad HX Y m2 Z m5 n2 n3 n5 aE aP aO
   generalize B.heap.size=lb at G⊢
   generalize B.alloc mU=w4 at G⊢
   revert G;revert lb;revert w4;revert q;revert O;revert N;revert M;revert L;revert I;revert A;revert R;revert U;revert Q
   exact ar.out
  refine en rfl (fun K D=> ?_) eM
  go_simp
  refine D.out _ _ ⟨l2,l3⟩ (fun bb=> ?_)
  clear D K
  try simp only[k_]
  refine eO (rs:=[1,5]) (by kernel_rfl) (by simp) ?_
  refine en rfl (fun K D=> ?_) ?_
  ·skip
   go_simp
   refine D.out _ _ ⟨l2,l3⟩ (fun ba=> ?_)
   clear D K
   try simp only[k_]
   refine qi 6 ?_
   try simp only[k_]
   refine eO (rs:=[5]) (by kernel_rfl) (by simp) ?_
   refine en rfl (fun K D=> ?_) eM
   go_simp
   go_at_call 128
   (with_reducible refine(HV.out _ (Blk.drew (Blk.grownN HI.out.rdr (dO wr mU none))) (nx (dO wr mU _))).mono ?_)
   rintro e B ⟨v,q,rfl,V,hq,ak,ab,am⟩
   obtain⟨vk,A,R,rfl, -,⟨U,Q,rfl, -, -⟩, -, -⟩:=V.open
   obtain⟨O,ai⟩: ∃a,a=x.kind:=⟨_,rfl⟩
   obtain⟨N,ah⟩: ∃a,a=x.n:=⟨_,rfl⟩
   obtain⟨M,ag⟩: ∃a,a=x.s:=⟨_,rfl⟩
   obtain⟨L,af⟩: ∃a,a=x.l.length:=⟨_,rfl⟩
   obtain⟨I,ae⟩: ∃a,a=x.k.length:=⟨_,rfl⟩
   rw[←ai,←ah,←ag,←af,←ae]at V⊢
   clear ai ah ag af ae
   have E:=dM ((nx (dO wr mU _)).trans ab)
   have HX:Hid (RepS B (fun b=>wr.heap.size≤b) x (.agg #[.int .i64 O,.int .i64 N,.string M,.slice A L R,.slice U I Q])):=dM (RepS.keeps (Keeps.refl _ B) (fun b (h:_≤b) _=>show wr.heap.size≤b from dV (jR (row:=some F) (nx (dO wr mU _))) h) _ _ V)
   have Y:=dM (And.intro hq ak)
   have ad:=dM am
   have ap:Hid (B.heap[wr.heap.size]? =some mU):=dM ((ab.block wr.heap.size (by simp) (by intro e;injection e with e<;>omega)).trans (eC wr mU))
   clear V hq ak ab am
   have m2:(B).cell? ⟨W.heap.size,0,none⟩=some (.pointer (some ⟨F,0,none⟩)):=nl k2 E.out (by intro e;injection e with e<;>omega)
   have Z:(B).cell? ⟨W.heap.size+1,0,none⟩=some (.int .i64 aa):=nl k3 E.out (by intro e;injection e with e<;>omega)
   have m5:(B).cell? ⟨W.heap.size+3,3,none⟩=some (.slice A0 vs.length c0):=nl k5 E.out (by intro e;injection e with e<;>omega)
   refine D.out _ _ ⟨m2,Z⟩ (fun aN=> ?_)
   clear D K
   try simp only[k_]
   have G:Hid (Bu wr B F s x q p m (.agg #[.int .i64 O,.int .i64 N,.string M,.slice A L R,.slice U I Q]) wr.heap.size):=dM ⟨E.out,ad.out,HX.out,ap.out,Y.out.1,Y.out.2⟩
   clear E ad HX ap Y m2 Z m5 aN
   generalize wr.heap.size=lb at G⊢
   revert G;revert lb;revert B;revert q;revert O;revert N;revert M;revert L;revert I;revert A;revert R;revert U;revert Q
   exact ar.out
  refine en rfl (fun K D=> ?_) eM
  go_simp
  go_at_call 128
  (with_reducible refine(HV.out _ (Blk.drew (Blk.grownN HI.out.rdr (dO wr mU none))) (nx (dO wr mU _))).mono ?_)
  rintro e B ⟨v,q,rfl,V,hq,ak,ab,am⟩
  obtain⟨vk,A,R,rfl, -,⟨U,Q,rfl, -, -⟩, -, -⟩:=V.open
  obtain⟨O,ai⟩: ∃a,a=x.kind:=⟨_,rfl⟩
  obtain⟨N,ah⟩: ∃a,a=x.n:=⟨_,rfl⟩
  obtain⟨M,ag⟩: ∃a,a=x.s:=⟨_,rfl⟩
  obtain⟨L,af⟩: ∃a,a=x.l.length:=⟨_,rfl⟩
  obtain⟨I,ae⟩: ∃a,a=x.k.length:=⟨_,rfl⟩
  rw[←ai,←ah,←ag,←af,←ae]at V⊢
  clear ai ah ag af ae
  have E:=dM ((nx (dO wr mU _)).trans ab)
  have HX:Hid (RepS B (fun b=>wr.heap.size≤b) x (.agg #[.int .i64 O,.int .i64 N,.string M,.slice A L R,.slice U I Q])):=dM (RepS.keeps (Keeps.refl _ B) (fun b (h:_≤b) _=>show wr.heap.size≤b from dV (jR (row:=some F) (nx (dO wr mU _))) h) _ _ V)
  have Y:=dM (And.intro hq ak)
  have ad:=dM am
  have ap:Hid (B.heap[wr.heap.size]? =some mU):=dM ((ab.block wr.heap.size (by simp) (by intro e;injection e with e<;>omega)).trans (eC wr mU))
  clear V hq ak ab am
  have m2:(B).cell? ⟨W.heap.size,0,none⟩=some (.pointer (some ⟨F,0,none⟩)):=nl k2 E.out (by intro e;injection e with e<;>omega)
  have Z:(B).cell? ⟨W.heap.size+1,0,none⟩=some (.int .i64 aa):=nl k3 E.out (by intro e;injection e with e<;>omega)
  have m5:(B).cell? ⟨W.heap.size+3,3,none⟩=some (.slice A0 vs.length c0):=nl k5 E.out (by intro e;injection e with e<;>omega)
  refine D.out _ _ ⟨m2,Z⟩ (fun aM=> ?_)
  clear D K
  try simp only[k_]
  refine eO (rs:=[1]) (by kernel_rfl) (by simp) ?_
  refine en rfl (fun K D=> ?_) eM
  go_simp
  refine D.out _ _ ⟨m2,Z⟩ (fun aL=> ?_)
  clear D K
  try simp only[k_]
  refine qi 6 ?_
  try simp only[k_]
  have G:Hid (Bu wr B F s x q p m (.agg #[.int .i64 O,.int .i64 N,.string M,.slice A L R,.slice U I Q]) wr.heap.size):=dM ⟨E.out,ad.out,HX.out,ap.out,Y.out.1,Y.out.2⟩
  clear E ad HX ap Y m2 Z m5 aM aL
  generalize wr.heap.size=lb at G⊢
  revert G;revert lb;revert B;revert q;revert O;revert N;revert M;revert L;revert I;revert A;revert R;revert U;revert Q
  exact ar.out
 intro Q U R A I L M N O q w4 lb G
 have HM:=dM (HI.out.moved G.out.1 G.out.2.1)
 have aZ:W.heap.size+4≤w4.heap.size:=HM.out.sz
 have m2:(w4).cell? ⟨W.heap.size,0,none⟩=some (.pointer (some ⟨F,0,none⟩)):=nl k2 G.out.1 (by intro e;injection e with e<;>omega)
 have Z:(w4).cell? ⟨W.heap.size+1,0,none⟩=some (.int .i64 aa):=nl k3 G.out.1 (by intro e;injection e with e<;>omega)
 have m5:(w4).cell? ⟨W.heap.size+3,3,none⟩=some (.slice A0 vs.length c0):=nl k5 G.out.1 (by intro e;injection e with e<;>omega)
 have bf:w4.cell? ⟨W.heap.size,0,none⟩=some (.pointer (some ⟨F,0,none⟩))∧w4.cell? ⟨W.heap.size+1,0,none⟩=some (.int .i64 aa):=⟨m2,Z⟩
 refine eO (rs:=[8]) (by kernel_rfl) (by simp) ?_
 refine en rfl (fun K D=> ?_) eM
 refine fX _ (by rfl) _ _ _ (by rfl) (W.heap.size+4) 63 iJ (.agg zeros5.toArray) 5 80 fY hJ aJ aI aH rfl (by omega) (.slice A0 vs.length c0) vs.length xs (by rfl) HM.out.own ⟨lb,0,none⟩ 1 1 [.int .i64 0,.int .i64 0,.string ⟨#[]⟩,.slice none 0 0,.slice none 0 0] (by rfl) (by rfl) (eU (cs:= #[.int .i64 0,.int .i64 0,.string ⟨#[]⟩,.slice none 0 0,.slice none 0 0]) (t:=63) (fr:=(0,0)) G.out.2.2.2.1) (by simp[Value.oneCell']) (by omega) (by unfold maxLen;omega) (by omega) (by omega) w4.heap.size rfl ?_
 intro g ax w5 ao au aD aC
 have a8:W.heap.size+4≤g:=(ao.lt g rfl).1
 have aF:=dM (HI.out.add G.out.1 G.out.2.1 G.out.2.2.1 au ao (aD.imp_right (fun h=>iw h.symm)))
 have aq:=aW.out
 have e0:w5.cell? ⟨g,vs.length*5,none⟩=some (.int .i64 0):=by have:=ao.cells rfl (vs.length*5) (.int .i64 0) (by rw[ez (by omega),aq,hZ];rfl);rwa [eW,eL]at this
 have e1:w5.cell? ⟨g,vs.length*5+1,none⟩=some (.int .i64 0):=by have:=ao.cells rfl (vs.length*5+1) (.int .i64 0) (by rw[ez (by omega),aq,show vs.length*5+1-vs.length*5=1 by omega];rfl);rwa [eW,eL]at this
 have e2:w5.cell? ⟨g,vs.length*5+2,none⟩=some (.string ⟨#[]⟩):=by have:=ao.cells rfl (vs.length*5+2) (.string ⟨#[]⟩) (by rw[ez (by omega),aq,show vs.length*5+2-vs.length*5=2 by omega];rfl);rwa [eW,eL]at this
 have e3:w5.cell? ⟨g,vs.length*5+3,none⟩=some (.slice none 0 0):=by have:=ao.cells rfl (vs.length*5+3) (.slice none 0 0) (by rw[ez (by omega),aq,show vs.length*5+3-vs.length*5=3 by omega];rfl);rwa [eW,eL]at this
 have e4:w5.cell? ⟨g,vs.length*5+4,none⟩=some (.slice none 0 0):=by have:=ao.cells rfl (vs.length*5+4) (.slice none 0 0) (by rw[ez (by omega),aq,show vs.length*5+4-vs.length*5=4 by omega];rfl);rwa [eW,eL]at this
 have av: ∀o,w5.frozen? ⟨g,o,none⟩=false:=fun o=>F8 ao o
 obtain⟨z0,z1,z2,z3,z4⟩:=And.intro (av (vs.length*5)) (And.intro (av (vs.length*5+1)) (And.intro (av (vs.length*5+2)) (And.intro (av (vs.length*5+3)) (av (vs.length*5+4)))))
 have a7:(vs.length:Int)<(vs.length:Int)+1:=by omega
 have aw: ∀k,k<W.heap.size+4→some k≠(.slice A0 vs.length c0:Value).ownBlock:=fun k hk e=>by have:=(HI.out.own.lt k e.symm).1;omega
 have o2:=nl m2 au (aw W.heap.size (by omega))
 have o3:=nl Z au (aw (W.heap.size+1) (by omega))
 have o5:=nl m5 au (aw (W.heap.size+3) (by omega))
 have FZ:=dM (HM.out.c5.grown au (aw _ (by omega)))
 have oz:w5.frozen? ⟨W.heap.size+3,3,none⟩=false:=FZ.out.frozen 3
 have aG: ¬W.heap.size+3=g:=by omega
 have a6: ¬g=W.heap.size+3:=by omega
 have OL:Hid (w5.grownBy (((((w5.setCell ⟨g,vs.length*5,none⟩ (.int .i64 O)).setCell ⟨g,vs.length*5+1,none⟩ (.int .i64 N)).setCell ⟨g,vs.length*5+2,none⟩ (.string M)).setCell ⟨g,vs.length*5+3,none⟩ (.slice A L R)).setCell ⟨g,vs.length*5+4,none⟩ (.slice U I Q)) (some g)):=dM (ul (c0:= .int .i64 O) (c1:= .int .i64 N) (c2:= .string M) (c3:= .slice A L R) (c4:= .slice U I Q) aq ao).2
 clear ao au aD aC av aw aq
 refine D.out _ _ ⟨o2,o3⟩ (fun aK=> ?_)
 clear D K
 try simp only[k_]
 refine qi 9 ?_
 try simp only[k_]
 refine qi 11 ?_
 try simp only[k_]
 refine eO (rs:=[10,12]) (by kernel_rfl) (by simp) ?_
 refine en rfl (fun K D=> ?_) ?_
 ·skip
  go_simp
  refine D.out _ _ ⟨nl o2 OL.out (by intro e;injection e with e<;>omega),nl o3 OL.out (by intro e;injection e with e<;>omega)⟩ (fun az=> ?_)
  clear D K
  obtain⟨w6,aj⟩: ∃w,w=(((((w5.setCell ⟨g,vs.length*5,none⟩ (.int .i64 O)).setCell ⟨g,vs.length*5+1,none⟩ (.int .i64 N)).setCell ⟨g,vs.length*5+2,none⟩ (.string M)).setCell ⟨g,vs.length*5+3,none⟩ (.slice A L R)).setCell ⟨g,vs.length*5+4,none⟩ (.slice U I Q)):=⟨_,rfl⟩
  have aA:=dM aj
  have ay:Hid (w5.grownBy w6 (some g)):=dM (by rw[aj];exact OL.out)
  rw[←aj]at az⊢
  clear aj e0 e1 e2 e3 e4 z0 z1 z2 z3 z4 oz
  have q2:=nl o2 ay.out (by intro e;injection e with e<;>omega)
  have q3:=nl o3 ay.out (by intro e;injection e with e<;>omega)
  have q5:=nl o5 ay.out (by intro e;injection e with e<;>omega)
  have qz:w6.frozen? ⟨W.heap.size+3,3,none⟩=false:=(Blk.grown FZ.out ay.out (by intro e;injection e with e<;>omega)).frozen 3
  try simp only[k_]
  refine eO (rs:=[12]) (by kernel_rfl) (by simp) ?_
  refine en rfl (fun K D=> ?_) eM
  go_simp
  refine D.out _ _ ⟨nl q2 (ou w6 (W.heap.size+3) 3 _) (by intro e;injection e with e<;>omega),nl q3 (ou w6 (W.heap.size+3) 3 _) (by intro e;injection e with e<;>omega)⟩ (fun aV=> ?_)
  clear D K
  refine gC (by kernel_rfl) ?_ _
  go_end0
  exact⟨_,_,q,rfl,G.out.2.2.2.2.1,G.out.2.2.2.2.2,by rw[aA.out];exact aF.out⟩
 refine en rfl (fun K D=> ?_) eM
 go_simp
 refine D.out _ _ ⟨nl o2 (ou w5 (W.heap.size+3) 3 _) (by intro e;injection e with e<;>omega),nl o3 (ou w5 (W.heap.size+3) 3 _) (by intro e;injection e with e<;>omega)⟩ (fun az=> ?_)
 clear D K
 obtain⟨w6,aj⟩: ∃w,w=w5.setCell ⟨W.heap.size+3,3,none⟩ (.slice (some ⟨g,0,none⟩) (vs.length+1) ax):=⟨_,rfl⟩
 have aA:=dM aj
 rw[←aj]at az⊢
 have gb:=ou w5 (W.heap.size+3) 3 (.slice (some ⟨g,0,none⟩) (vs.length+1) ax)
 rw[←aj]at gb
 have f0:=nl e0 gb (by intro e;injection e with e<;>omega)
 have y0:w6.frozen? ⟨g,vs.length*5,none⟩=false:=by rw[aj,jt];exact z0
 have f1:=nl e1 gb (by intro e;injection e with e<;>omega)
 have y1:w6.frozen? ⟨g,vs.length*5+1,none⟩=false:=by rw[aj,jt];exact z1
 have f2:=nl e2 gb (by intro e;injection e with e<;>omega)
 have y2:w6.frozen? ⟨g,vs.length*5+2,none⟩=false:=by rw[aj,jt];exact z2
 have f3:=nl e3 gb (by intro e;injection e with e<;>omega)
 have y3:w6.frozen? ⟨g,vs.length*5+3,none⟩=false:=by rw[aj,jt];exact z3
 have f4:=nl e4 gb (by intro e;injection e with e<;>omega)
 have y4:w6.frozen? ⟨g,vs.length*5+4,none⟩=false:=by rw[aj,jt];exact z4
 have q2:=nl o2 gb (by intro e;injection e with e<;>omega)
 have q3:=nl o3 gb (by intro e;injection e with e<;>omega)
 have O2:=dM o2
 have O3:=dM o3
 clear aj gb e0 e1 e2 e3 e4 z0 z1 z2 z3 z4 oz o2 o3 o5
 have aB:Hid ((((((w6.setCell ⟨g,vs.length*5,none⟩ (.int .i64 O)).setCell ⟨g,vs.length*5+1,none⟩ (.int .i64 N)).setCell ⟨g,vs.length*5+2,none⟩ (.string M)).setCell ⟨g,vs.length*5+3,none⟩ (.slice A L R)).setCell ⟨g,vs.length*5+4,none⟩ (.slice U I Q))=(((((w5.setCell ⟨g,vs.length*5,none⟩ (.int .i64 O)).setCell ⟨g,vs.length*5+1,none⟩ (.int .i64 N)).setCell ⟨g,vs.length*5+2,none⟩ (.string M)).setCell ⟨g,vs.length*5+3,none⟩ (.slice A L R)).setCell ⟨g,vs.length*5+4,none⟩ (.slice U I Q)).setCell ⟨W.heap.size+3,3,none⟩ (.slice (some ⟨g,0,none⟩) (vs.length+1) ax)):=dM (by rw[aA.out];exact Ev w5 aG _ _ _ _ _ _)
 try simp only[k_]
 refine eO (rs:=[10]) (by kernel_rfl) (by simp) ?_
 refine en rfl (fun K D=> ?_) eM
 go_simp
 refine D.out _ _ (by rw[aB.out];exact⟨nl (nl O2.out OL.out (by intro e;injection e with e<;>omega)) (ou _ (W.heap.size+3) 3 _) (by intro e;injection e with e<;>omega),nl (nl O3.out OL.out (by intro e;injection e with e<;>omega)) (ou _ (W.heap.size+3) 3 _) (by intro e;injection e with e<;>omega)⟩) (fun aV=> ?_)
 clear D K
 refine gC (by kernel_rfl) ?_ _
 go_end0
 exact⟨_,_,q,rfl,G.out.2.2.2.2.1,G.out.2.2.2.2.2,by rw[aB.out];exact aF.out⟩
def D7 (l:List Int) (d:Nat) (i:Nat) (left:Int) (vs:List J):(Nat×Int)⊕(Nat×Int×List J):=
 if(nj l d (d_ l i) left).2.2.2≠0 then .inl ((nj l d (d_ l i) left).2.1,(nj l d (d_ l i) left).2.2.2)
 else .inr ((nj l d (d_ l i) left).2.1,(nj l d (d_ l i) left).2.2.1,vs++[(nj l d (d_ l i) left).1])
def DN (l:List Int) (r:(Nat×Int)⊕(Nat×Int×List J)) (v:VR):Prop:=match r with
 | .inl (p,er)=>er≠0∧v.2.1=p∧v.2.2.2=er
 | .inr (j,lf,vs)=>v=(.mk 4 0 ⟨#[]⟩ vs [],d_ l j,lf,0)
theorem uY (l:List Int) (d:Nat): ∀(f g i:Nat) (left:Int) (vs:List J),i≤l.length→0≤left→l.length<i+f→l.length<i+g→
  DN l (uZ l 93 (D7 l d) f i left vs) (rD l (nj l d) false (nW l (nj l d) false g false) (d_ l i) left [] vs)
 |0,g,i,left,vs,hi,_,hf,_=>absurd hf (by omega)
 |f+1,0,i,left,vs,hi,_,_,hg=>absurd hg (by omega)
 |f+1,g+1,i,left,vs,hi,hl,hf,hg=>by
  have F:=oS hi
  have E:=BI l d (d_ l i) left F.2
  rw[uZ]
  unfold rD s8 D7
  obtain⟨r,G⟩:=yaa (nj l d (d_ l i) left)
  rw[←G]at E⊢
  rw[dN (show ¬(false=true)by decide)]
  by_cases q:r.2.2.2≠0
  ·rw[dP q,dP q]
   exact⟨q,rfl,rfl⟩
  ·rw[dN q,dN q]
   obtain⟨h1,N,L,M⟩:=E (by omega)
   show DN l (if f_ l r.2.1=44 then _ else if f_ l r.2.1=93 then _ else _) _
   rw[dN (show ¬(false=true)by decide),dN (show ¬(false=true)by decide)]
   by_cases D:f_ l r.2.1=44
   ·rw[dP D,dN (fun h=>h.1 D)]
    have I:=oq (l:=l) (i:=r.2.1) (by omega)
    rw[nW,dN (by rw[dN (show ¬(false=true)by decide)];omega),dN (by decide),dN (fun h=>h D)]
    exact uY l d f g (r.2.1+1) r.2.2.1 (vs++[r.1]) I L (by omega) (by omega)
   ·rw[dN D]
    by_cases B:f_ l r.2.1=93
    ·rw[dP B,dN (fun h=>h.2 B)]
     rw[nW,dP (by rw[dN (show ¬(false=true)by decide)];exact B)]
     rfl
    ·rw[dN B,dP ⟨D,B⟩]
     exact⟨show(50:Int)≠0 by decide,rfl,rfl⟩
theorem KX: ∀(n:Nat) (l:List Int) (i:Nat),l.length-i≤n→ ¬zi (f_ l (d_ l i))=true
 |n,l,i,hn=>by
  by_cases h:zi (f_ l i)=true
  ·have q:i<l.length:=oq (by intro e;rw[e]at h;revert h;decide)
   obtain⟨m,rfl⟩: ∃m,n=m+1:=⟨n-1,by omega⟩
   rw[Lp h]
   exact KX m l (i+1) (by omega)
  ·rw[Is h];exact h
theorem AE (l:List Int) (d i:Nat) (left:Int) (hi:i<l.length) (D:0≤left) (E:f_ l i=91):
  DN l (if f_ l (d_ l (i+1))=93 then .inr (d_ l (i+1)+1,left,[])else uZ l 93 (D7 l d) (l.length+1) (d_ l (i+1)) left []) (nV l (nj l d) i left):=by
 have B:=oS (l:=l) (i:=i+1) hi
 have q:d_ l (d_ l (i+1))=d_ l (i+1):=Is (KX _ _ _ (dQ _))
 unfold nV
 rw[dT (by rw[E];decide),nW,dN (show ¬(false=true)by decide)]
 by_cases h:f_ l (d_ l (i+1))=93
 ·rw[dP h,dP h];rfl
 ·rw[dN h,dN h,dP rfl]
  have:=uY l d (l.length+1) l.length (d_ l (i+1)) left [] B.2 D (by omega) (by omega)
  rw[q]at this
  exact this
theorem BH {P:Program} {D:Func} {p:Tmp} {q:TypeId} (h:D.results= #[.cell p q]) (tmps:Array Value) (w:World) (g:Nat) (t:TypeId) (cs:List Value) (B:TypeDesc)
  (G:tmps.getD p undef= .pointer (some ⟨g,0,none⟩)) (M:Blk w g t cs)
  (E:P.underlying q=some B) (L:B.isRow=true) (hi:(P.info? q).map (·.size)=some cs.length):
  (results D tmps).run P w= .ok (.agg cs.toArray) w:=by
 have F:tmps[p]?.getD undef= .pointer (some ⟨g,0,none⟩):=by simpa using G
 have I:=lC w g t q cs.toArray (0,0) B M E (by cases B<;>first|rfl|cases L) (by simpa using hi)
 simp only[results,h]
 simp[fF,Result.andThen,F,asAddr,I]
theorem BP {w:World} {g:Nat} {t:TypeId} {I G F E D:Value} (L:Blk w g t [I,G,F,E,D]) (z0 B q z3 z4:Value):
  Blk (((((w.setCell ⟨g,0,none⟩ z0).setCell ⟨g,1,none⟩ B).setCell ⟨g,2,none⟩ q).setCell ⟨g,3,none⟩ z3).setCell ⟨g,4,none⟩ z4) g t [z0,B,q,z3,z4]∧
  w.grownBy (((((w.setCell ⟨g,0,none⟩ z0).setCell ⟨g,1,none⟩ B).setCell ⟨g,2,none⟩ q).setCell ⟨g,3,none⟩ z3).setCell ⟨g,4,none⟩ z4) (some g):=
 ⟨((((L.setCell 0 z0).setCell 1 B).setCell 2 q).setCell 3 z3).setCell 4 z4,((((ou w g 0 z0).trans (ou _ g 1 B)).trans (ou _ g 2 q)).trans (ou _ g 3 z3)).trans (ou _ g 4 z4)⟩
def LI (W:World) (rb:Nat) (s:ByteArray) (dep:Int) (w:World) (i:Nat) (left:Int) (vs:List J):Prop:=
 (∃xs vL,LInv W w rb s dep vs xs vL i (256-left))∧0≤left∧left≤256∧i≤s.size∧(vs.length:Int)+left≤256∧GW W rb
theorem um {w:World} {base n:Nat} {e:TypeId} {v:Value} {xs:List Value} (h:w.ownsRow base e 5 v n xs):v= .slice none 0 0∨ ∃g q,v= .slice (some ⟨g,0,none⟩) n q:=by
 rcases h.2 with⟨h,_⟩|⟨g,q,B,h,_⟩
 ·exact .inl h
 ·exact .inr ⟨g,q,h⟩
theorem Ka (l:List Int) (d i:Nat) (left:Int) (q:(nj l d i left).2.2.2=0) (hi:i≤l.length):(nj l d i left).2.2.1<left:=by
 have F: ∀(D:Nat→Int→VR),(∀i left,i<l.length→0≤left→Moves l i left (D i left))→(mT l D i left).2.2.2=0→(mT l D i left).2.2.1<left:=fun D I q=>by
  unfold mT at q⊢
  by_cases E:pA (f_ l i)=true
  ·rw[dN (by rw[E];simp)]at q⊢
   have L:i<l.length:=oq (by intro e;rw[e]at E;revert E;decide)
   by_cases h1:left-1<0
   ·rw[dP h1]at q;exact absurd (show(53:Int)=0 from q) (by decide)
   ·rw[dN h1]at q⊢
    have B: ∀v p,(pj l (left-1) v p).2.2.1<left:=fun v p=>by
     unfold pj;split
     ·show left-1<left;omega
     ·show left-1<left;omega
    split
    ·split
     ·show left-1<left;omega
     ·split
      ·show left-1<left;omega
      ·show left-1<left;omega
    ·rename_i G
     rw[dN G]at q
     split
     ·exact B _ _
     ·rename_i R;rw[dN R]at q
      split
      ·exact B _ _
      ·rename_i Q;rw[dN Q]at q
       split
       ·exact B _ _
       ·rename_i O;rw[dN O]at q
        split
        ·exact B _ _
        ·rename_i N;rw[dN N]at q
         have:=(I i (left-1) L (by omega) q).2.2.2
         omega
  ·rw[dP E]at q;exact absurd (show(50:Int)=0 from q) (by decide)
 cases d with
 |zero=>rw[nj]at q⊢;exact F _ (fun i left _ _=> .bad (by decide)) q
 |succ d=>
  rw[nj]at q⊢
  refine F _ (fun i left hi M=> ?_) q
  unfold nV
  have s:=oS (l:=l) (i:=i+1) (by omega)
  exact(Kd (fun i left hi _=>BI l d i left hi) _ _ _ _ _ _ _ s.2 M).mono (by omega) (kM _)
theorem ES (W:World) (D d:Nat) (s:ByteArray) (hs:s.size≤10000) (hd:d≤7) (hv:BL s D d):
  ItemAsk s D 192 #[.pointer (some ⟨W.heap.size+3,0,none⟩),.pointer (some ⟨W.heap.size,0,none⟩),.pointer (some ⟨W.heap.size+1,0,none⟩)] (D7 (a_ s) d) (LI W D s (8-(d:Int))) (fun w'=>W.grownBy w' (some D)) where
 rdr:=fun w i left vs h=>by obtain⟨⟨xs,G,F⟩,_⟩:=h;exact F.rdr
 left:=fun w i left vs h=>⟨h.2.1,h.2.2.1,h.2.2.2.1⟩
 moved:=fun w B i k left vs h hk hg hr=>by
  obtain⟨⟨xs,G,F⟩,h0,h1,hi,Y,I⟩:=h
  exact⟨⟨xs,G,F.moved hg hr⟩,h0,h1,hk,Y,I⟩
 gone:=fun w B i left vs h hg=>by
  obtain⟨⟨xs,G,F⟩,_⟩:=h
  exact F.gr.trans hg
 more:=fun i left vs j M aa hi h0 h1 h=>by
  have R:=oS (l:=a_ s) (i:=i) (by rw[j_];exact hi)
  have X:=BI (a_ s) d (d_ (a_ s) i) left R.2
  unfold D7 at h
  split at h
  ·cases h
  ·rename_i N
   injection h with h
   injection h with h1 h2
   obtain⟨m1,O,_⟩:=X (by omega)
   rw[j_]at O
   rw[←h1]
   exact⟨by omega,O⟩
 bad:=fun w i left vs p er h E=>by
  obtain⟨⟨xs,G,F⟩,h0,h1,hi,Y,I⟩:=h
  have Q: ∀B,Rdr B D s i (256-left)→w.grownBy B (some D)→Calls prog 128 #[.pointer (some ⟨D,0,none⟩),.int .i64 (8-(d:Int)+1)] B (fun e w'=>e= .panicked (v7 (p:Nat) er)∧B.grownBy w' (some D)):=fun B U Z=>by
   rw[show(8-(d:Int)+1)=9-(d:Int)by omega]
   refine(hv i left B hi h0 h1 U ((I.grown F.gr).grown Z)).mono fun e w' V=> ?_
   unfold D7 at E
   split at E
   ·rename_i N
    injection E with E
    injection E with e1 L
    rcases V with⟨h,_⟩|⟨_,h⟩
    ·exact absurd h N
    ·rw[←e1,←L];exact h
   ·cases E
  exact C5 W w D s _ (by omega) vs xs G _ _ _ _ F Q
 ok:=fun w i left vs j M aa h E=>by
  obtain⟨⟨xs,G,F⟩,h0,h1,hi,Y,I⟩:=h
  have R:=oS (l:=a_ s) (i:=i) (by rw[j_];exact hi)
  have X:=BI (a_ s) d (d_ (a_ s) i) left R.2
  unfold D7 at E
  split at E
  ·cases E
  ·rename_i N
   injection E with E
   injection E with e1 L
   injection L with L e3
   obtain⟨m1,O,m3,m4⟩:=X (by omega)
   have Q: ∀B,Rdr B D s i (256-left)→w.grownBy B (some D)→Calls prog 128 #[.pointer (some ⟨D,0,none⟩),.int .i64 (8-(d:Int)+1)] B (fun e w'=> ∃v q,e= .returned v∧RepS w' (fun b=>B.heap.size≤b) (nj (a_ s) d (d_ (a_ s) i) left).1 v∧q≤s.size∧d_ (a_ s) q=j∧pv B w' D s (q:Nat) (256-M)):=fun B U Z=>by
    rw[show(8-(d:Int)+1)=9-(d:Int)by omega]
    refine(hv i left B hi h0 h1 U ((I.grown F.gr).grown Z)).mono fun e w' V=> ?_
    rcases V with⟨_,h⟩|⟨h,_⟩
    ·rw[←e1,←L];exact h
    ·exact absurd h N
   have ah: ∀e w',DS W D s (8-(d:Int)) vs (nj (a_ s) d (d_ (a_ s) i) left).1 j (256-M) e w'→e= .returned (.tuple #[])∧ ∃q,q≤s.size∧d_ (a_ s) q=j∧LI W D s (8-(d:Int)) w' q M aa:=fun e w' hx=>by
    obtain⟨ab,ad,q,af,hq,ae,ag⟩:=hx
    refine⟨af,q,hq,ae,⟨ab,ad,by rw[←e3];exact ag⟩,by omega,by omega,hq,?_,I⟩
    rw[←e3,dS,js]
    have ai:=Ka (a_ s) d (d_ (a_ s) i) left (by omega)
    omega
   exact(EV W w D s _ (by omega) vs xs G (by omega) _ _ _ _ j F Q).mono ah
theorem LInv.tells {W w w':World} {F:Nat} {s:ByteArray} {M:Int} {vs:List J} {xs:List Value} {q:Value} {i n:Int} (D:LInv W w F s M vs xs q i n) (B:w.grownBy w' (some (W.heap.size+2))) (E:vs.length≤256):
  RepS w' (fun b=>W.heap.size≤b) (.mk 4 0 ⟨#[]⟩ vs []) (.agg #[.int .i64 4,.int .i64 0,.string ⟨#[]⟩,q,.slice none 0 0]):=by
 have G:=fun k I=>(D.own.lt k I).1
 refine RepS.of_rows (S:=fun b=>W.heap.size+4≤b) (base:=W.heap.size+4) (xs:=xs) (D.own.kept B ?_) ?_ (ft _ _ _ _) (fun b h _=>by replace h:W.heap.size+4≤b:=h;show W.heap.size≤b;omega) (fun b h=>by show W.heap.size≤b;omega) (by decide) (by omega) (by simp) (by simp)
 ·cases E:q.ownBlock with
  |none=>exact .inl rfl
  |some g=>exact .inr (fun e=>by injection e with e;have:=G g E;omega)
 ·exact D.flat.keeps (T:=fun b=>W.heap.size+4≤b) ⟨B.size,fun b h1 L=>B.block b L (by intro e;injection e with e;have:=h1.1;omega)⟩ (fun b h1 _=>h1.1)
theorem Mb (W:World) (q:Nat) (s:ByteArray) (B i n:Int) (E:Rdr W q s i n):
  LInv W ((((W.alloc (.cells #[.pointer (some ⟨q,0,none⟩)] 227)).alloc (.cells #[.int .i64 B] 3)).alloc (.cells zeros5.toArray 63)).alloc (.cells #[.int .i64 4,.int .i64 0,.string ⟨#[]⟩,.slice none 0 0,.slice none 0 0] 63)) q s B [] [] (.slice none 0 0) i n:=by
 have F:=E.lt
 have g1:=dO W (.cells #[.pointer (some ⟨q,0,none⟩)] 227) none
 have D:=dO (W.alloc (.cells #[.pointer (some ⟨q,0,none⟩)] 227)) (.cells #[.int .i64 B] 3) none
 have g3:=dO ((W.alloc (.cells #[.pointer (some ⟨q,0,none⟩)] 227)).alloc (.cells #[.int .i64 B] 3)) (.cells zeros5.toArray 63) none
 have g4:=dO (((W.alloc (.cells #[.pointer (some ⟨q,0,none⟩)] 227)).alloc (.cells #[.int .i64 B] 3)).alloc (.cells zeros5.toArray 63)) (.cells #[.int .i64 4,.int .i64 0,.string ⟨#[]⟩,.slice none 0 0,.slice none 0 0] 63) none
 refine⟨?_,?_,?_,?_,ft _ _ _ _,rfl,((((g1.trans D).trans g3).trans g4).but _),F,by simp,(((Blk.grownN (Blk.grownN (Blk.grownN (Blk.grownN E g1) D) g3) g4)))⟩
 ·exact Blk.grownN (Blk.grownN (Blk.grownN (qb W rfl [.pointer (some ⟨q,0,none⟩)] _) D) g3) g4
 ·exact Blk.grownN (Blk.grownN (qb _ (by simp) [.int .i64 B] _) g3) g4
 ·exact Blk.grownN (qb _ (by simp) zeros5 _) g4
 ·exact qb _ (by simp) [.int .i64 4,.int .i64 0,.string ⟨#[]⟩,.slice none 0 0,.slice none 0 0] _
theorem CT (s:ByteArray) (F d:Nat) (hs:s.size≤10000) (hd:d≤7) (W:BL s F d) (i:Nat) (left:Int) (w:World) (hi:i<s.size) (h0:0≤left) (h1:left≤256) (R:Rdr w F s i (256-left)) (Z:GW w F) (ab:f_ (a_ s) i=91):
  Calls prog 165 #[.pointer (some ⟨F,0,none⟩),.int .i64 (8-(d:Int))] w (ValPost w F s (nV (a_ s) (nj (a_ s) d) i left)):=by
 have ae:=dM (j_ s)
 have L:=AE (a_ s) d i left (by rw[ae.out];exact hi) h0 ab
 rw[ae.out]at L
 obtain⟨M,hM⟩:=yaa (nV (a_ s) (nj (a_ s) d) i left)
 rw[←hM]at L⊢
 obtain⟨r,Q⟩:=yaa ((if f_ (a_ s) (d_ (a_ s) (i+1))=93 then .inr (d_ (a_ s) (i+1)+1,left,[])else uZ (a_ s) 93 (D7 (a_ s) d) (s.size+1) (d_ (a_ s) (i+1)) left []:(Nat×Int)⊕(Nat×Int×List J)))
 rw[←Q]at L
 have ad:=dM L
 have aa:=Mb w F s (8-(d:Int)) i _ R
 have U:=rc s F 192 #[.pointer (some ⟨w.heap.size+3,0,none⟩),.pointer (some ⟨w.heap.size,0,none⟩),.pointer (some ⟨w.heap.size+1,0,none⟩)] (D7 (a_ s) d) _ _ (ES w F d s hs hd W)
  (gJ func192 (by kernel_rfl) rfl) (8-(d:Int)) 93 (by omega) (by decide) (by decide) i left [] _ ⟨⟨[],.slice none 0 0,aa⟩,h0,h1,by omega,by simp;omega,Z⟩ hi (by omega)
 rw[←Q]at U
 have af:=dM U
 have HR:=dM R
 have ah: ∀(fn:Fn) (first O:Array Value) (w:World),(Instr.makeFunc fn first O).run prog w= .ok (.func fn first O) w:=fun _ _ _ _=>rfl
 clear L hM Q aa U R Z ab W
 go_enter func165,ntmps165
 go_wp2_with fail
 refine af.out.mono ?_
 intro e B X
 rcases r with⟨p,er⟩|⟨j,lf,vs⟩
 ·obtain⟨rfl,Y⟩:=X
  have ag:=dM Y
  have D:Hid (er≠0∧M.2.1=p∧M.2.2.2=er):=dM ad.out
  clear Y
  go_wp2
  exact⟨rfl,.inr ⟨by rw[D.out.2.2];exact D.out.1,by rw[D.out.2.1,D.out.2.2],ag.out⟩⟩
 ·obtain⟨rfl,⟨xs,vL,q⟩,l0,l1,G,hvl,_⟩:=X
  have D:Hid (M=(.mk 4 0 ⟨#[]⟩ vs [],d_ (a_ s) j,lf,0)):=dM ad.out
  have I:=dM q
  have V:vs.length≤256:=by omega
  obtain⟨a0,a1,a2,a3,a4⟩:B.cell? ⟨w.heap.size+3,0,none⟩=some (.int .i64 4)∧B.cell? ⟨w.heap.size+3,1,none⟩=some (.int .i64 0)∧B.cell? ⟨w.heap.size+3,2,none⟩=some (.string ⟨#[]⟩)∧B.cell? ⟨w.heap.size+3,3,none⟩=some vL∧B.cell? ⟨w.heap.size+3,4,none⟩=some (.slice none 0 0):=⟨q.c5.cell 0,q.c5.cell 1,q.c5.cell 2,q.c5.cell 3,q.c5.cell 4⟩
  obtain⟨b0,b1,b2,b3,b4⟩:B.cell? ⟨w.heap.size+2,0,none⟩=some (.int .i64 0)∧B.cell? ⟨w.heap.size+2,1,none⟩=some (.int .i64 0)∧B.cell? ⟨w.heap.size+2,2,none⟩=some (.string ⟨#[]⟩)∧B.cell? ⟨w.heap.size+2,3,none⟩=some (.slice none 0 0)∧B.cell? ⟨w.heap.size+2,4,none⟩=some (.slice none 0 0):=⟨q.c4.cell 0,q.c4.cell 1,q.c4.cell 2,q.c4.cell 3,q.c4.cell 4⟩
  obtain⟨f0,f1,f2,f3,f4⟩:B.frozen? ⟨w.heap.size+2,0,none⟩=false∧B.frozen? ⟨w.heap.size+2,1,none⟩=false∧B.frozen? ⟨w.heap.size+2,2,none⟩=false∧B.frozen? ⟨w.heap.size+2,3,none⟩=false∧B.frozen? ⟨w.heap.size+2,4,none⟩=false:=⟨q.c4.frozen 0,q.c4.frozen 1,q.c4.frozen 2,q.c4.frozen 3,q.c4.frozen 4⟩
  rcases um q.own with rfl|⟨g,O,rfl⟩
  ·have N:=BP q.c4 (.int .i64 4) (.int .i64 0) (.string ⟨#[]⟩) (.slice none 0 0) (.slice none 0 0)
   have E:=dM N
   clear q N
   go_wp2
   refine dW (BH results165 _ _ (w.heap.size+2) _ _ _ rfl E.out.1 ed rfl m8) rfl ?_
   exact .inl ⟨by rw[D.out],_,j,rfl,by rw[D.out];exact I.out.tells E.out.2 V,G,by rw[D.out],I.out.gr.andThen E.out.2 (by intro j G;injection G with G;left;omega),by rw[D.out];exact Blk.grown I.out.rdr E.out.2 (by intro e;injection e with e;have:=I.out.lt;omega)⟩
  ·have N:=BP q.c4 (.int .i64 4) (.int .i64 0) (.string ⟨#[]⟩) (.slice (some ⟨g,0,none⟩) vs.length O) (.slice none 0 0)
   have E:=dM N
   clear q N
   go_wp2
   refine dW (BH results165 _ _ (w.heap.size+2) _ _ _ rfl E.out.1 ed rfl m8) rfl ?_
   exact .inl ⟨by rw[D.out],_,j,rfl,by rw[D.out];exact I.out.tells E.out.2 V,G,by rw[D.out],I.out.gr.andThen E.out.2 (by intro j G;injection G with G;left;omega),by rw[D.out];exact Blk.grown I.out.rdr E.out.2 (by intro e;injection e with e;have:=I.out.lt;omega)⟩
theorem RepCS.flat {W:World} {S:Nat→Prop} {b:Nat}: ∀{l:List J} {o:Nat},RepCS W S b o l→ ∃xs,FlatJ W S l xs∧(∀j u,xs[j]? =some u→W.cell? ⟨b,o+j,none⟩=some u)∧ ∀u∈xs,u.oneCell'=true
 |[],o,_=>⟨[],rfl,by simp,by simp⟩
 |x::r,o,h=>by
  rw[RepCS]at h
  obtain⟨⟨v,B,F⟩,D⟩:=h
  obtain⟨xs,h1,I,G⟩:=D.flat
  obtain⟨a0,a1,a2,a3,a4,rfl,c0,c1,c2,c3,c4⟩:=F
  have E:=B.open
  obtain⟨U,A,c,e,_,⟨K,d,L,_⟩,_⟩:=E
  simp only[gY,ig,gN,jq]at e
  obtain⟨R,Q,O,N,M⟩:=e
  refine⟨a0::a1::a2::a3::a4::xs,⟨a0,a1,a2,a3,a4,xs,rfl,B,h1⟩,fun j u q=> ?_,fun u q=> ?_⟩
  ·match j,q with
   |0,q=>injection q with q;rw[←q];exact c0
   |1,q=>injection q with q;rw[←q];exact c1
   |2,q=>injection q with q;rw[←q];exact c2
   |3,q=>injection q with q;rw[←q];exact c3
   |4,q=>injection q with q;rw[←q];exact c4
   |j+5,q=>
    have:=I j u (by simpa using q)
    rwa [show o+5+j=o+(j+5)by omega]at this
  ·simp only[eF]at q
   rcases q with rfl|rfl|rfl|rfl|rfl|q
   ·rw[R];rfl
   ·rw[Q];rfl
   ·rw[O];rfl
   ·rw[N];rfl
   ·rw[M,L];rfl
   ·exact G u q
theorem FlatJ.append {S:Nat→Prop} {W:World}: ∀{l m:List J} {xs q:List Value},FlatJ W S l xs→FlatJ W S m q→FlatJ W S (l++m) (xs++q)
 |[],m,xs,q,h,k=>by obtain rfl:xs=[]:=h;exact k
 |x::r,m,xs,q,h,k=>by
  obtain⟨a0,a1,a2,a3,a4,zs,rfl,h1,B⟩:=h
  exact⟨a0,a1,a2,a3,a4,zs++q,rfl,h1,B.append k⟩
structure CInv (W wr:World) (S:Nat→Prop) (l:List J) (j g cap:Nat) (ys zs:List Value):Prop where
 own:wr.ownsRow W.heap.size 63 5 (.slice (some ⟨g,0,none⟩) l.length cap) l.length (ys++zs)
 new:FlatJ wr (fun b=>W.heap.size≤b∧b≠g) (l.take j) ys
 old:FlatJ wr S (l.drop j) zs
 bel:Below W.heap.size W wr
theorem CInv.step {W wr F:World} {S:Nat→Prop} (hS: ∀b,S b→b<W.heap.size) {l:List J} {j g U:Nat} {E zs:List Value} {z0 N M z3 z4 c0 c1 c2 c3 c4:Value} {x:J} (Y:j<l.length) (V:l[j]=x) (h:CInv W wr S l j g U E (z0::N::M::z3::z4::zs))
  (q:Below wr.heap.size wr F) (hr:RepS F (fun b=>wr.heap.size≤b) x (.agg #[c0,c1,c2,c3,c4])):
  CInv W (((((F.setCell ⟨g,j*5,none⟩ c0).setCell ⟨g,j*5+1,none⟩ c1).setCell ⟨g,j*5+2,none⟩ c2).setCell ⟨g,j*5+3,none⟩ c3).setCell ⟨g,j*5+4,none⟩ c4) S l (j+1) g U (E++[c0,c1,c2,c3,c4]) zs:=by
 have ab:E.length=j*5:=by rw[h.new.length,ep,fK (by omega)]
 have aa:F.ownsRow W.heap.size 63 5 (.slice (some ⟨g,0,none⟩) l.length U) l.length (E++z0::N::M::z3::z4::zs):=h.own.kept (od q none) (.inr (by simp[Value.ownBlock]))
 have ae:g<wr.heap.size:=(h.own.lt g rfl).2
 have af:W.heap.size≤g:=(h.own.lt g rfl).1
 have h1:=aa.stored (j*5) c0
 have L:=h1.1.stored (j*5+1) c1
 have h3:=L.1.stored (j*5+2) c2
 have Z:=h3.1.stored (j*5+3) c3
 have I:=Z.1.stored (j*5+4) c4
 have e:(((((E++z0::N::M::z3::z4::zs).set (j*5) c0).set (j*5+1) c1).set (j*5+2) c2).set (j*5+3) c3).set (j*5+4) c4=(E++[c0,c1,c2,c3,c4])++zs:=by
  rw[←ab]
  simp[List.set_append]
 rw[e]at I
 have D:F.grownBy _ (some g):=(((h1.2.trans L.2).trans h3.2).trans Z.2).trans I.2
 generalize ((((F.setCell ⟨g,j*5,none⟩ c0).setCell ⟨g,j*5+1,none⟩ c1).setCell ⟨g,j*5+2,none⟩ c2).setCell ⟨g,j*5+3,none⟩ c3).setCell ⟨g,j*5+4,none⟩ c4=w6 at I D⊢
 have ad:=h.bel.size
 have O: ∀b,b<wr.heap.size→b≠g→w6.heap[b]? =wr.heap[b]? :=fun b h1 L=>(D.block b (dX h1 q.size) (by intro e;injection e with e;exact L e)).trans (q.block b h1)
 have Q:wr.heap.size≤w6.heap.size:=dV q.size D.size
 refine⟨I.1,?_,?_,⟨D.os.trans (q.os.trans h.bel.os),D.tape.trans (q.tape.trans h.bel.tape),D.output.trans (q.output.trans h.bel.output),dV ad Q,fun i hi=>(O i (by omega) (by omega)).trans (h.bel.block i hi)⟩⟩
 ·rw[eS Y,V]
  refine FlatJ.append (h.new.keeps ⟨Q,fun b R G=>O b G R.2⟩ (fun b q _=>q)) ?_
  refine⟨c0,c1,c2,c3,c4,[],rfl,?_,rfl⟩
  refine RepS.keeps (S:=fun b=>wr.heap.size≤b) ⟨D.size,fun b (h1:_≤b) G=>D.block b G (by intro e;injection e with e;omega)⟩ (fun b (h1:_≤b) _=>⟨by omega,by omega⟩) _ _ hr
 ·have hd:l.drop j=x::l.drop (j+1):=by rw[eD Y,V]
  have X:=h.old
  rw[hd]at X
  obtain⟨a0,a1,a2,a3,a4,vs,B,_,h6⟩:=X
  injection B with _ B;injection B with _ B;injection B with _ B;injection B with _ B;injection B with _ B
  rw[B]
  exact h6.keeps ⟨Q,fun b R G=>O b G (fun e=>by have:=hS b R;omega)⟩ (fun b q _=>q)
def Kl (w:World) (rb:Nat) (s:ByteArray) (i:Nat) (n:Int) (e:Ending) (w':World):Prop:=
 (np ((a_ s).drop i)=0∧zF w rb (i+1:Nat) 50 e w')∨
 (np ((a_ s).drop i)≠0∧oj (((a_ s).drop i).take (np ((a_ s).drop i))) (-9007199254740991) 9007199254740991=false∧zF w rb i 41 e w')∨
 (np ((a_ s).drop i)≠0∧oj (((a_ s).drop i).take (np ((a_ s).drop i))) (-9007199254740991) 9007199254740991=true∧e= .returned (.int .i64 (oP (((a_ s).drop i).take (np ((a_ s).drop i)))))∧pv w w' rb s (i+np ((a_ s).drop i):Nat) n)
theorem xC (N:Nat) (s:ByteArray) (i:Nat) (n:Int) (w:World) (h:Rdr w N s i n) (hi:i≤s.size) (hs:s.size≤1000000):
  Calls prog 168 #[.pointer (some ⟨N,0,none⟩)] w (Kl w N s i n):=by
 have ak:=dM (j_ s)
 have HR:=dM h
 obtain⟨⟨c0,c1,c2⟩,f0,f1,f2⟩:=h.cells
 have U:=h.lt
 obtain⟨S,L⟩:=yaa (s.extract i s.size)
 have Z:a_ S=(a_ s).drop i:=by rw[L,JT]
 have ad:S.size=s.size-i:=by rw[L,iI];omega
 have aa:=dM L
 have R:=dM (fun W:World=>KO S W (by omega))
 have X:=Fw (a_ S)
 rw[j_]at X
 have O:=Nm (l:=a_ S)
 have I:a_ (S.extract 0 (np (a_ S)))=(a_ S).take (np (a_ S)):=by rw[pF];rfl
 unfold Kl
 rw[←Z]
 obtain⟨m,V⟩:=yaa (np (a_ S))
 rw[←V]at R X O I⊢
 have b0:(0:Int)≤(i:Int):=by omega
 have b1:(i:Int)≤(s.size:Int):=by omega
 by_cases h0:m=0
 ·subst h0
  clear h L Z V O I hi
  go_enter func168,ntmps168
  go_wp2
  go_quiet (fail)
  rw[←aa.out]
  go_wp2_with(first|(go_at_call 195;(with_reducible refine(R.out _).mono ?_);rintro e w1 ⟨rfl,B⟩;have E:=dM ((rG (dU _ _) _).trans B);have q:=Blk.below (HR.out.drewN nq) B U;obtain⟨⟨c0,c1,c2⟩,f0,f1,f2⟩:=Rdr.cells q;clear B q)|(go_at_call 130;(with_reducible refine(wu _ _ _).mono ?_);rintro e w' ⟨rfl,rfl⟩))
  exact⟨rfl,.inl ⟨trivial,by rw[show((i+1:Nat):Int)=(i:Int)+1 by omega];exact⟨rfl,od E.out _⟩⟩⟩
 ·have Y:=O h0
  obtain⟨T,Q⟩:=yaa (S.extract 0 m)
  rw[←Q]at I
  rw[←I]at Y⊢
  have HT:=dM Q
  have aj:T.size≤s.size:=by rw[Q,iI];omega
  have D:=dM (fun W:World=>Ai T (-9007199254740991) 9007199254740991 W (by omega) (by omega) (by omega))
  unfold rA at D
  rw[Y]at D
  have ag:(m:Int)≤(S.size:Int):=by omega
  have ai:(0:Int)≤(m:Int):=by omega
  have ah:(m:Int)≤1000000:=by omega
  have af:((m:Int)==0)=false:=by rw[dY];omega
  have H0:=dM h0
  obtain⟨F,hF⟩:=yaa (oj (a_ T) (-9007199254740991) 9007199254740991)
  obtain⟨x,hx⟩:=yaa (oP (a_ T))
  rw[←hF,←hx]at D⊢
  clear h L Z V O I Y Q h0 hF hx X ad
  cases F with
  |false=>
   have ab:Hid (∀W:World,Calls prog 196 #[.string T,.int .i64 (-9007199254740991),.int .i64 9007199254740991] W fun e w'=>e= .returned (.tuple #[.int .i64 0,.iface 54 (.int .i64 41)])∧Below W.heap.size W w'):=dM (fun W=>(D.out W).mono fun e w' h=>by
    rcases h with⟨h,_⟩|⟨_,_,h⟩|⟨_,h,_⟩
    ·cases h
    ·exact h
    ·cases h)
   clear D
   go_enter func168,ntmps168
   go_wp2
   go_quiet (fail)
   rw[←aa.out]
   go_wp2_with(first|(go_at_call 195;(with_reducible refine(R.out _).mono ?_);rintro e w1 ⟨rfl,B⟩;have E:=dM ((rG (dU _ _) _).trans B))|(go_at_call 196;rw[←HT.out];(with_reducible refine(ab.out _).mono ?_);rintro e w2 ⟨rfl,G⟩;have M:=dM (E.out.trans (G.mono E.out.size));have q:=Blk.below HR.out M.out U;obtain⟨⟨c0,c1,c2⟩,f0,f1,f2⟩:=Rdr.cells q;clear G q)|(go_at_call 130;(with_reducible refine(wu _ _ _).mono ?_);rintro e w' ⟨rfl,rfl⟩))
   exact⟨rfl,.inr (.inl ⟨H0.out,trivial,rfl,od M.out _⟩)⟩
  |true=>
   have ab:Hid (∀W:World,Calls prog 196 #[.string T,.int .i64 (-9007199254740991),.int .i64 9007199254740991] W fun e w'=>e= .returned (.tuple #[.int .i64 x,.nilIface])∧Below W.heap.size W w'):=dM (fun W=>(D.out W).mono fun e w' h=>by
    rcases h with⟨h,_⟩|⟨_,h,_⟩|⟨_,_,h⟩
    ·cases h
    ·cases h
    ·exact h)
   clear D
   go_enter func168,ntmps168
   go_wp2
   go_quiet (fail)
   rw[←aa.out]
   go_wp2_with(first|(go_at_call 195;(with_reducible refine(R.out _).mono ?_);rintro e w1 ⟨rfl,B⟩;have E:=dM ((rG (dU _ _) _).trans B))|(go_at_call 196;rw[←HT.out];(with_reducible refine(ab.out _).mono ?_);rintro e w2 ⟨rfl,G⟩;have M:=dM (E.out.trans (G.mono E.out.size));have q:=Blk.below HR.out M.out U;have ae:=dM q;obtain⟨⟨c0,c1,c2⟩,f0,f1,f2⟩:=Rdr.cells q;clear G q))
   go_ret
   refine .inr (.inr ⟨H0.out,trivial,rfl,(od M.out _).trans (ou _ N 1 _),?_⟩)
   rw[show((i+m:Nat):Int)=(i:Int)+(m:Int)by omega]
   exact Rdr.goes ae.out _
end Go.Proofs.YtceddodfddlncaaGreatDoor
