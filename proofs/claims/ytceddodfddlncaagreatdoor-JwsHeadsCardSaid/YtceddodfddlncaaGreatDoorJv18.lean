
import Derived.Test.YtceddodfddlncaaGreatDoorJv14
import Derived.Test.YtceddodfddlncaaGreatDoorJv17
set_option maxRecDepth 100000
set_option maxHeartbeats 16000000
set_option linter.all false
namespace Go.Proofs.YtceddodfddlncaaGreatDoor
open Go Go.RowKit Tryz
theorem GO (v:Value) (w:World):Calls prog 27 #[.nilIface,v] w fun e w'=>e= .returned (.bool false)∧w'=w:=by
 go_enter func27,ntmps27
 go_wp2
 go_ret
 exact⟨rfl,rfl⟩
theorem Jb (t:Nat) (b:Nat) (w:World) (E:ErrTab w) (D:w.cell? ⟨t,0,none⟩=some (.pointer none)) (F:w.frozen? ⟨t,0,none⟩=false):
  Calls prog 27 #[.iface 188 (.pointer (some ⟨b,0,none⟩)),.iface 261 (.pointer (some ⟨t,0,none⟩))] w fun e w'=>e= .returned (.bool true)∧w'.cell? ⟨t,0,none⟩=some (.pointer (some ⟨b,0,none⟩))∧w.grownBy w' (some t):=by
 refine(GT 188 (.pointer (some ⟨b,0,none⟩)) ⟨t,0,none⟩ (.pointer none) w true (fun W w'=>w'.cell? ⟨t,0,none⟩=some (.pointer (some ⟨b,0,none⟩))∧W.grownBy w' (some t)) E D F (fun W a h1 B q I=>GS ⟨b,0,none⟩ t ⟨t,0,none⟩ a _ _ W h1 B q rfl)).mono ?_
 rintro e w' ⟨h1,W,G,B,q⟩
 exact⟨h1,B,(od G _).trans q⟩
theorem x8 {w w':World} {b o:Nat} {v:Value} {row:Option Nat} (h:w.cell? ⟨b,o,none⟩=some v) (B:w.grownBy w' row) (q:some b≠row):w'.cell? ⟨b,o,none⟩=some v:=by
 have:=B.block b (nc h) q
 unfold World.cell? at h⊢
 simp only[this]
 exact h
def K_ (w:World) (rb:Nat) (s:ByteArray) (i:Nat) (n:Int) (e:Ending) (w':World):Prop:=
 (¬na (nH (a_ s) i)<oX (a_ s) i-i∧e= .returned (.string (toS (nH (a_ s) i)))∧pv w w' rb s (oX (a_ s) i:Nat) n)∨
 (na (nH (a_ s) i)<oX (a_ s) i-i∧zF w rb (i+na (nH (a_ s) i):Nat) 50 e w')
theorem qU (D:Nat) (s:ByteArray) (i:Nat) (n:Int) (w:World) (h:Rdr w D s i n) (hg:GW w D) (hi:i≤s.size) (hs:s.size≤1000000):
  Calls prog 189 #[.pointer (some ⟨D,0,none⟩)] w (K_ w D s i n):=by
 have aI:=dM (j_ s)
 have HW:=dM h
 have HG:=dM hg
 obtain⟨⟨c0,c1,c2⟩,f0,f1,f2⟩:=h.cells
 clear h hg
 go_enter func189,ntmps189
 go_wp2
 go_loopw[] (fun wr=> ∃k:Nat,i≤k∧k≤s.size∧oX (a_ s) i=oX (a_ s) k∧w.grownBy wr (some D)∧Rdr wr D s k n) (fun wr=>s.size-D6 wr D)
 case atStart=>exact⟨i,dQ _,hi,rfl,ov _ _,HW.out⟩
 case round=>
  clear c0 c1 c2 f0 f1 f2
  obtain⟨k,aP,X,au,aw,N⟩:=hrel
  have aB:=dM au
  have aa:=dM aw
  have HR:=dM N
  have HA:=dM (tk D s k n wr N X hs)
  have aG:=dM (Fy N)
  obtain⟨⟨c0,c1,c2⟩,f0,f1,f2⟩:=Rdr.cells N
  obtain⟨b0,b1⟩:=G4 s k
  have ah:pH (oQ (a_ s) k)=pH (f_ (a_ s) k):=by
   unfold oQ;split
   ·rename_i h;rw[h];decide
   ·rfl
  obtain⟨x,hx⟩:=yaa (oQ (a_ s) k)
  rw[←hx]at HA b0 b1 ah
  have U:=dM (fun W:World=>Ca x W b0 b1)
  rw[ah]at U
  clear au aw N hx ah
  by_cases F:pH (f_ (a_ s) k)=true
  ·have aD:=G7 F
   rw[aI.out]at aD
   have aF:=dM (aB.out.trans (JD F))
   rw[F]at U
   clear F
   go_wp2_with(first|(go_at_call 160;(with_reducible refine HA.out.mono ?_);rintro e w' ⟨rfl,q,rfl⟩)|(go_at_call 203;(with_reducible refine(U.out _).mono ?_);rintro e w' ⟨rfl,rfl⟩))
   go_roundw
   case rel=>exact⟨k+1,by omega,by omega,aF.out,aa.out.trans (oM wr q D 1 _),Rdr.goes (HR.out.drewN q) _⟩
   case measure=>
    have h1:=Fy (i:=k+1) (Rdr.goes (HR.out.drewN q) ((k+1:Nat):Int))
    have e:((k+1:Nat):Int)=(k:Int)+1:=by omega
    rw[e]at h1
    rw[h1,aG.out];omega
  ·have ae:oX (a_ s) i=k:=aB.out.trans (It F)
   have ag:a_ (s.extract i k)=nH (a_ s) i:=by
    rw[pF]
    unfold nH
    rw[ae,kh]
   have af:(s.extract i k).size=k-i:=by rw[iI];omega
   obtain⟨S,hS⟩:=yaa (s.extract i k)
   have aE:=dM hS
   rw[←hS]at ag af
   have E:=dM ag
   have am:=dM af
   have Z:=dM ae
   have ax:pH (f_ (a_ s) k)=false:=by simpa using F
   rw[ax]at U
   have i0:(0:Int)≤(i:Int):=by omega
   have i1:(i:Int)≤(k:Int):=by omega
   have i2:(k:Int)≤(s.size:Int):=by omega
   have aC:=dM (fun(A:Option Addr) (c:Nat) (W:World) (O:Marks W) (R:Lies W A (nH (a_ s) i))=>ru A (nH (a_ s) i) S.size c W O (by rw[←E.out,j_]) (by rw[am.out];omega) (by rw[←E.out];exact pM S) R)
   clear F ax ag af ae hS
   go_wp2_with(first|(go_at_call 160;(with_reducible refine HA.out.mono ?_);rintro e w' ⟨rfl,q,rfl⟩)|(go_at_call 203;(with_reducible refine(U.out _).mono ?_);rintro e w' ⟨rfl,rfl⟩))
   go_quiet (fail)
   rw[←aE.out]
   have av:GW wr D:=HG.out.grown aa.out
   have ao:=dM av
   have ay:Below wr.heap.size wr ((wr.drewN (q+nq)).alloc (.cells #[.pointer none] 188)):=(rG (dU _ _) _).alloc (dQ _) _
   have ad:=dM ay
   have ar:Blk ((wr.drewN (q+nq)).alloc (.cells #[.pointer none] 188)) wr.heap.size 188 [.pointer none]:=eC _ _
   have aA:=dM ar
   clear av ay ar
   by_cases Y:na (nH (a_ s) i)<oX (a_ s) i-i
   ·have aq:=dM Y
    have ab:Hid (∀(A:Option Addr) (c:Nat) (W:World),Marks W→Lies W A (a_ S)→Calls prog 197 #[.slice A S.size c] W (LV (na (nH (a_ s) i):Int) W)):=dM (fun A c W O R=>(aC.out A c W O (by rw[←E.out];exact R)).mono fun e w' h=>by
     rcases h with⟨h1,_⟩|⟨_,h2⟩
     ·exfalso
      rw[←E.out,j_,am.out,E.out]at h1
      have:=Z.out
      omega
     ·exact h2)
    obtain⟨B,hB⟩:=yaa (na (nH (a_ s) i))
    have aQ:B≤1000000:=by have:=Z.out;omega
    rw[←hB]at ab
    have aL:=dM hB
    clear Y hB
    go_wp2_with(first|(refine Hr rfl (some 31) rfl _ _ 5 (.tmp 30) rfl S rfl ew ee fc ?_;intro A c w5 Q aj L;have G:=yab ad L;have ak:=dM (aA.out.below L aA.out.lt);have ap:=dM (ab.out A c w5 (Marks.below ao.out.1 G.out) Q);clear L Q aj;try go_frame)|(go_at_call 197;(with_reducible refine ap.out.mono ?_);rintro e w6 ⟨b,rfl,hp,hn,V,I⟩;have M:=yab G I;have az:=dM (ak.out.below I ak.out.lt);have aH:=dM hp;have aJ:=dM (dX ak.out.lt V);have aM:=dM (Jb wr.heap.size b w6 (ErrTab.below ao.out.2.1 M.out) (az.out.cell 0) (az.out.frozen 0));clear I hp hn V)|(go_at_call 27;(with_reducible refine aM.out.mono ?_);rintro e w7 ⟨rfl,aN,ai⟩;have aO:=x8 aH.out ai (by intro e;injection e with e;have:=aJ.out;omega);have aK:=dM ai;clear ai)|(go_at_call 130;(with_reducible refine(wu _ _ _).mono ?_);rintro e w' ⟨rfl,rfl⟩))
    refine⟨rfl,.inr ⟨aq.out,?_,aa.out.trans (od (M.out.grown aK.out M.out.size (by intro k X;injection X with X;omega)) _)⟩⟩
    rw[←aL.out]
    rfl
   ·have aq:=dM Y
    have ab:Hid (∀(A:Option Addr) (c:Nat) (W:World),Marks W→Lies W A (a_ S)→Calls prog 197 #[.slice A S.size c] W (fun e w'=>e= .returned .nilIface∧Below W.heap.size W w')):=dM (fun A c W O R=>(aC.out A c W O (by rw[←E.out];exact R)).mono fun e w' h=>by
     rcases h with⟨_,h2⟩|⟨h1,_⟩
     ·exact h2
     ·exfalso
      have V:=vQ (nH (a_ s) i)
      rw[←E.out,j_,am.out,E.out]at h1 V
      have:=Z.out
      omega)
    clear Y
    go_wp2_with(first|(refine Hr rfl (some 31) rfl _ _ 5 (.tmp 30) rfl S rfl ew ee fc ?_;intro A c w5 Q aj L;have G:=yab ad L;have ap:=dM (ab.out A c w5 (Marks.below ao.out.1 G.out) Q);clear L Q aj;try go_frame)|(go_at_call 197;(with_reducible refine ap.out.mono ?_);rintro e w6 ⟨rfl,I⟩;have M:=yab G I;clear I)|(go_at_call 27;(with_reducible refine(GO _ _).mono ?_);rintro e w' ⟨rfl,rfl⟩))
    go_ret
    refine .inl ⟨aq.out,?_,aa.out.trans (od M.out _),?_⟩
    ·rw[←E.out,KF];rfl
    ·rw[Z.out];exact Blk.below HR.out M.out HR.out.lt
theorem EE {c:Int} (h:0≤c∧c≤255):Bytes (oZ c):= .of_mem fun x q=>by
 unfold oZ pC at q
 split at q
 ·simp only[eF,fx,je]at q
  rcases q with rfl|rfl|rfl|rfl|rfl|rfl
  ·decide
  ·decide
  ·decide
  ·decide
  ·split<;>omega
  ·split<;>omega
 ·split at q
  ·simp only[eF,fx,je]at q
   rcases q with rfl|rfl<;>omega
  ·rw[eh]at q;omega
theorem FL: ∀xs:List Int,Bytes xs→Bytes (qB xs)
 |[],_=> .of_mem (by simp[qB])
 |c::r,h=>by
  rw[yZ]
  exact(EE (h.mem (by simp))).append (FL r (.of_mem fun x q=>h.mem (eE _ q)))
theorem qO (t:ByteArray):Bytes (pX (a_ t)):=by
 rw[qN]
 have h:=FL _ (pM t)
 exact .of_mem fun x q=>by
  rcases eF.1 q with rfl|q
  ·decide
  ·rcases fA.1 q with q|q
   ·exact h.mem q
   ·rw[eh]at q;omega
theorem Ku (o:Bool): ∀(q:List J) (f:Bool) (k:List ByteArray),(∀x∈q,Bytes (qq x))→Bytes (tf o f q k)
 |[],_,_,_=>by rw[tf];exact .of_mem (by simp)
 |x::r,f,k,h=>by
  rw[tf]
  have h1:Bytes (if f=true then[]else[44]):=by split<;>exact .of_mem (by simp)
  have B:Bytes (if o=true then pX (a_ (k.headD ⟨#[]⟩))++[58]else[]):=by
   split
   ·exact(qO _).append (.of_mem (by simp))
   ·exact .of_mem (by simp)
  exact h1.append (B.append ((h x (by simp)).append (Ku o r false k.tail (fun y hy=>h y (eE _ hy)))))
theorem BZ (j:J):Bytes (qq j):=by
 induction j using J.ind with
 |h kind n s l k ih=>
  rw[qq]
  split
  ·exact .of_mem (by decide)
  split
  ·split<;>exact .of_mem (by decide)
  split
  ·exact Aq n
  split
  ·exact qO s
  split
  ·exact((Bytes.of_mem (by decide)).append (Ku false l true k ih)).append (.of_mem (by decide))
  split
  ·exact((Bytes.of_mem (by decide)).append (Ku true l true k ih)).append (.of_mem (by decide))
  ·exact .of_mem (by simp)
end Go.Proofs.YtceddodfddlncaaGreatDoor
