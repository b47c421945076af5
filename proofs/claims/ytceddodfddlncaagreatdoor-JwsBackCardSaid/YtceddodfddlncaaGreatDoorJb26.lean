
import Derived.Maps.Range
import Derived.Test.YtceddodfddlncaaGreatDoorJb10
import Derived.Test.YtceddodfddlncaaGreatDoorJb16
set_option maxRecDepth 100000
set_option maxHeartbeats 16000000
set_option linter.all false
namespace Go.Proofs.YtceddodfddlncaaGreatDoor
open Go Go.RowKit
theorem RepCS.flat {W:World} {S:Nat→Prop} {b:Nat}: ∀{l:List J} {o:Nat},RepCS W S b o l→ ∃xs,FlatJ W S l xs∧(∀j u,xs[j]? =some u→W.cell? ⟨b,o+j,none⟩=some u)∧ ∀u∈xs,u.oneCell'=true
 |[],o,_=>⟨[],rfl,by simp,by simp⟩
 |x::r,o,h=>by
  rw[RepCS]at h
  obtain⟨⟨v,hv,hf⟩,hr⟩:=h
  obtain⟨xs,h1,h2,h3⟩:=hr.flat
  obtain⟨a0,a1,a2,a3,a4,rfl,c0,c1,c2,c3,c4⟩:=hf
  have hop:=hv.open
  obtain⟨vk,A,c,e,_,⟨K,d,ek,_⟩,_⟩:=hop
  simp only[Value.agg.injEq,Array.mk.injEq,List.cons.injEq,and_true]at e
  obtain⟨e0,e1,e2,e3,e4⟩:=e
  refine⟨a0::a1::a2::a3::a4::xs,⟨a0,a1,a2,a3,a4,xs,rfl,hv,h1⟩,fun j u hu=> ?_,fun u hu=> ?_⟩
  ·match j,hu with
   |0,hu=>injection hu with hu;rw[←hu];exact c0
   |1,hu=>injection hu with hu;rw[←hu];exact c1
   |2,hu=>injection hu with hu;rw[←hu];exact c2
   |3,hu=>injection hu with hu;rw[←hu];exact c3
   |4,hu=>injection hu with hu;rw[←hu];exact c4
   |j+5,hu=>
    have:=h2 j u (by simpa using hu)
    rwa [show o+5+j=o+(j+5)by omega]at this
  ·simp only[List.mem_cons]at hu
   rcases hu with rfl|rfl|rfl|rfl|rfl|hu
   ·rw[e0];rfl
   ·rw[e1];rfl
   ·rw[e2];rfl
   ·rw[e3];rfl
   ·rw[e4,ek];rfl
   ·exact h3 u hu
theorem FlatJ.append {S:Nat→Prop} {W:World}: ∀{l m:List J} {xs ys:List Value},FlatJ W S l xs→FlatJ W S m ys→FlatJ W S (l++m) (xs++ys)
 |[],m,xs,ys,h,k=>by obtain rfl:xs=[]:=h;exact k
 |x::r,m,xs,ys,h,k=>by
  obtain⟨a0,a1,a2,a3,a4,zs,rfl,h1,h2⟩:=h
  exact⟨a0,a1,a2,a3,a4,zs++ys,rfl,h1,h2.append k⟩
structure CInv (W wr:World) (S:Nat→Prop) (l:List J) (j g cap:Nat) (ys zs:List Value):Prop where
 own:wr.ownsRow W.heap.size 63 5 (.slice (some ⟨g,0,none⟩) l.length cap) l.length (ys++zs)
 new:FlatJ wr (fun b=>W.heap.size≤b∧b≠g) (l.take j) ys
 old:FlatJ wr S (l.drop j) zs
 bel:Below W.heap.size W wr
theorem CInv.step {W wr w4:World} {S:Nat→Prop} (hS: ∀b,S b→b<W.heap.size) {l:List J} {j g cap:Nat} {ys zs:List Value} {z0 z1 z2 z3 z4 c0 c1 c2 c3 c4:Value} {x:J} (hj:j<l.length) (hx:l[j]=x) (h:CInv W wr S l j g cap ys (z0::z1::z2::z3::z4::zs))
  (hb:Below wr.heap.size wr w4) (hr:RepS w4 (fun b=>wr.heap.size≤b) x (.agg #[c0,c1,c2,c3,c4])):
  CInv W (((((w4.setCell ⟨g,j*5,none⟩ c0).setCell ⟨g,j*5+1,none⟩ c1).setCell ⟨g,j*5+2,none⟩ c2).setCell ⟨g,j*5+3,none⟩ c3).setCell ⟨g,j*5+4,none⟩ c4) S l (j+1) g cap (ys++[c0,c1,c2,c3,c4]) zs:=by
 have hyl:ys.length=j*5:=by rw[h.new.length,List.length_take,Nat.min_eq_left (by omega)]
 have own4:w4.ownsRow W.heap.size 63 5 (.slice (some ⟨g,0,none⟩) l.length cap) l.length (ys++z0::z1::z2::z3::z4::zs):=h.own.kept (zaX hb none) (.inr (by simp[Value.ownBlock]))
 have glt:g<wr.heap.size:=(h.own.lt g rfl).2
 have gge:W.heap.size≤g:=(h.own.lt g rfl).1
 have h1:=own4.stored (j*5) c0
 have h2:=h1.1.stored (j*5+1) c1
 have h3:=h2.1.stored (j*5+2) c2
 have h4:=h3.1.stored (j*5+3) c3
 have h5:=h4.1.stored (j*5+4) c4
 have e:(((((ys++z0::z1::z2::z3::z4::zs).set (j*5) c0).set (j*5+1) c1).set (j*5+2) c2).set (j*5+3) c3).set (j*5+4) c4=(ys++[c0,c1,c2,c3,c4])++zs:=by
  rw[←hyl]
  simp[List.set_append]
 rw[e]at h5
 have hg:w4.grownBy _ (some g):=(((h1.2.trans h2.2).trans h3.2).trans h4.2).trans h5.2
 generalize ((((w4.setCell ⟨g,j*5,none⟩ c0).setCell ⟨g,j*5+1,none⟩ c1).setCell ⟨g,j*5+2,none⟩ c2).setCell ⟨g,j*5+3,none⟩ c3).setCell ⟨g,j*5+4,none⟩ c4=w6 at h5 hg⊢
 have hwr:=h.bel.size
 have key: ∀b,b<wr.heap.size→b≠g→w6.heap[b]? =wr.heap[b]? :=fun b h1 h2=>(hg.block b (Nat.lt_of_lt_of_le h1 hb.size) (by intro e;injection e with e;exact h2 e)).trans (hb.block b h1)
 have hsz:wr.heap.size≤w6.heap.size:=Nat.le_trans hb.size hg.size
 refine⟨h5.1,?_,?_,⟨hg.os.trans (hb.os.trans h.bel.os),hg.tape.trans (hb.tape.trans h.bel.tape),hg.output.trans (hb.output.trans h.bel.output),Nat.le_trans hwr hsz,fun i hi=>(key i (by omega) (by omega)).trans (h.bel.block i hi)⟩⟩
 ·rw[List.take_succ_eq_append_getElem hj,hx]
  refine FlatJ.append (h.new.keeps ⟨hsz,fun b hb1 hl=>key b hl hb1.2⟩ (fun b hb _=>hb)) ?_
  refine⟨c0,c1,c2,c3,c4,[],rfl,?_,rfl⟩
  refine RepS.keeps (S:=fun b=>wr.heap.size≤b) ⟨hg.size,fun b (h1:_≤b) hl=>hg.block b hl (by intro e;injection e with e;omega)⟩ (fun b (h1:_≤b) _=>⟨by omega,by omega⟩) _ _ hr
 ·have hd:l.drop j=x::l.drop (j+1):=by rw[List.drop_eq_getElem_cons hj,hx]
  have ho:=h.old
  rw[hd]at ho
  obtain⟨a0,a1,a2,a3,a4,vs,e2,_,h6⟩:=ho
  injection e2 with _ e2;injection e2 with _ e2;injection e2 with _ e2;injection e2 with _ e2;injection e2 with _ e2
  rw[e2]
  exact h6.keeps ⟨hsz,fun b hb1 hl=>key b hl (fun e=>by have:=hS b hb1;omega)⟩ (fun b hb _=>hb)
def zoZ (w:World) (rb:Nat) (s:ByteArray) (i:Nat) (n:Int) (e:Ending) (w':World):Prop:=
 (zbY ((strL s).drop i)=0∧ziJ w rb (i+1:Nat) 50 e w')∨
 (zbY ((strL s).drop i)≠0∧fitL (((strL s).drop i).take (zbY ((strL s).drop i))) (-9007199254740991) 9007199254740991=false∧ziJ w rb i 41 e w')∨
 (zbY ((strL s).drop i)≠0∧fitL (((strL s).drop i).take (zbY ((strL s).drop i))) (-9007199254740991) 9007199254740991=true∧e= .returned (.int .i64 (numL (((strL s).drop i).take (zbY ((strL s).drop i)))))∧zcg w w' rb s (i+zbY ((strL s).drop i):Nat) n)
theorem number_any (rb:Nat) (s:ByteArray) (i:Nat) (n:Int) (w:World) (h:Rdr w rb s i n) (hi:i≤s.size) (hs:s.size≤1000000):
  Calls Tryz.prog 168 #[.pointer (some ⟨rb,0,none⟩)] w (zoZ w rb s i n):=by
 have HLEN:=Lib.hid (zaQ s)
 have HR:=Lib.hid h
 obtain⟨⟨c0,c1,c2⟩,f0,f1,f2⟩:=h.cells
 have hrlt:=h.lt
 obtain⟨S,hS⟩: ∃S,S=s.extract i s.size:=⟨_,rfl⟩
 have hSl:strL S=(strL s).drop i:=by rw[hS,zgy]
 have hSs:S.size=s.size-i:=by rw[hS,ByteArray.size_extract];omega
 have HSX:=Lib.hid hS
 have HLD:=Lib.hid (fun W:World=>zkX S W (by omega))
 have hle:=zfY (strL S)
 rw[zaQ]at hle
 have hft:=zkv (l:=strL S)
 have hT:strL (S.extract 0 (zbY (strL S)))=(strL S).take (zbY (strL S)):=by rw[zax];rfl
 unfold zoZ
 rw[←hSl]
 obtain⟨m,hm⟩: ∃m,m=zbY (strL S):=⟨_,rfl⟩
 rw[←hm]at HLD hle hft hT⊢
 have b0:(0:Int)≤(i:Int):=by omega
 have b1:(i:Int)≤(s.size:Int):=by omega
 by_cases h0:m=0
 ·subst h0
  clear h hS hSl hm hft hT hi
  go_enter Tryz.func168,Tryz.ntmps168
  go_wp2
  go_quiet (fail)
  rw[←HSX.out]
  go_wp2_with(first|(go_at_call 195;(with_reducible refine(HLD.out _).mono ?_);rintro e w1 ⟨rfl,hb1⟩;have HB1:=Lib.hid ((zaw (Below.refl _ _) _).trans hb1);have hr1:=Blk.below (HR.out.drewN nq) hb1 hrlt;obtain⟨⟨c0,c1,c2⟩,f0,f1,f2⟩:=Rdr.cells hr1;clear hb1 hr1)|(go_at_call 130;(with_reducible refine(zbf _ _ _).mono ?_);rintro e w' ⟨rfl,rfl⟩))
  exact⟨rfl,.inl ⟨trivial,by rw[show((i+1:Nat):Int)=(i:Int)+1 by omega];exact⟨rfl,zaX HB1.out _⟩⟩⟩
 ·have hf:=hft h0
  obtain⟨T,hTT⟩: ∃T,T=S.extract 0 m:=⟨_,rfl⟩
  rw[←hTT]at hT
  rw[←hT]at hf⊢
  have HT:=Lib.hid hTT
  have hTs:T.size≤s.size:=by rw[hTT,ByteArray.size_extract];omega
  have HRD:=Lib.hid (fun W:World=>read_anyN T (-9007199254740991) 9007199254740991 W (by omega) (by omega) (by omega))
  unfold ReadTells at HRD
  rw[hf]at HRD
  have hmS:(m:Int)≤(S.size:Int):=by omega
  have hm0:(0:Int)≤(m:Int):=by omega
  have hm1:(m:Int)≤1000000:=by omega
  have hmb:((m:Int)==0)=false:=by rw[beq_eq_false_iff_ne];omega
  have H0:=Lib.hid h0
  obtain⟨F,hF⟩: ∃F,F=fitL (strL T) (-9007199254740991) 9007199254740991:=⟨_,rfl⟩
  obtain⟨x,hx⟩: ∃x,x=numL (strL T):=⟨_,rfl⟩
  rw[←hF,←hx]at HRD⊢
  clear h hS hSl hm hft hT hf hTT h0 hF hx hle hSs
  cases F with
  |false=>
   have HRD2:Hid (∀W:World,Calls Tryz.prog 196 #[.string T,.int .i64 (-9007199254740991),.int .i64 9007199254740991] W fun e w'=>e= .returned (.tuple #[.int .i64 0,.iface 54 (.int .i64 41)])∧Below W.heap.size W w'):=Lib.hid (fun W=>(HRD.out W).mono fun e w' h=>by
    rcases h with⟨h,_⟩|⟨_,_,h⟩|⟨_,h,_⟩
    ·cases h
    ·exact h
    ·cases h)
   clear HRD
   go_enter Tryz.func168,Tryz.ntmps168
   go_wp2
   go_quiet (fail)
   rw[←HSX.out]
   go_wp2_with(first|(go_at_call 195;(with_reducible refine(HLD.out _).mono ?_);rintro e w1 ⟨rfl,hb1⟩;have HB1:=Lib.hid ((zaw (Below.refl _ _) _).trans hb1))|(go_at_call 196;rw[←HT.out];(with_reducible refine(HRD2.out _).mono ?_);rintro e w2 ⟨rfl,hb2⟩;have HB2:=Lib.hid (HB1.out.trans (hb2.mono HB1.out.size));have hr1:=Blk.below HR.out HB2.out hrlt;obtain⟨⟨c0,c1,c2⟩,f0,f1,f2⟩:=Rdr.cells hr1;clear hb2 hr1)|(go_at_call 130;(with_reducible refine(zbf _ _ _).mono ?_);rintro e w' ⟨rfl,rfl⟩))
   exact⟨rfl,.inr (.inl ⟨H0.out,trivial,rfl,zaX HB2.out _⟩)⟩
  |true=>
   have HRD2:Hid (∀W:World,Calls Tryz.prog 196 #[.string T,.int .i64 (-9007199254740991),.int .i64 9007199254740991] W fun e w'=>e= .returned (.tuple #[.int .i64 x,.nilIface])∧Below W.heap.size W w'):=Lib.hid (fun W=>(HRD.out W).mono fun e w' h=>by
    rcases h with⟨h,_⟩|⟨_,h,_⟩|⟨_,_,h⟩
    ·cases h
    ·cases h
    ·exact h)
   clear HRD
   go_enter Tryz.func168,Tryz.ntmps168
   go_wp2
   go_quiet (fail)
   rw[←HSX.out]
   go_wp2_with(first|(go_at_call 195;(with_reducible refine(HLD.out _).mono ?_);rintro e w1 ⟨rfl,hb1⟩;have HB1:=Lib.hid ((zaw (Below.refl _ _) _).trans hb1))|(go_at_call 196;rw[←HT.out];(with_reducible refine(HRD2.out _).mono ?_);rintro e w2 ⟨rfl,hb2⟩;have HB2:=Lib.hid (HB1.out.trans (hb2.mono HB1.out.size));have hr1:=Blk.below HR.out HB2.out hrlt;have HR1:=Lib.hid hr1;obtain⟨⟨c0,c1,c2⟩,f0,f1,f2⟩:=Rdr.cells hr1;clear hb2 hr1))
   go_ret
   refine .inr (.inr ⟨H0.out,trivial,rfl,(zaX HB2.out _).trans (zaV _ rb 1 _),?_⟩)
   rw[show((i+m:Nat):Int)=(i:Int)+(m:Int)by omega]
   exact Rdr.goes HR1.out _
end Go.Proofs.YtceddodfddlncaaGreatDoor
