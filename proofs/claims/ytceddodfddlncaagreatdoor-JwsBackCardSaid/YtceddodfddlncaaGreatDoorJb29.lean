
import Derived.Test.YtceddodfddlncaaGreatDoorJb25
import Derived.Test.YtceddodfddlncaaGreatDoorJb26
import Derived.Test.YtceddodfddlncaaGreatDoorJb28
set_option maxRecDepth 100000
set_option maxHeartbeats 16000000
set_option linter.all false
namespace Go.Proofs.YtceddodfddlncaaGreatDoor
open Go Go.RowKit
theorem cloneJ_zero (a:Addr) (c:Nat) (w:World):
  Calls Tryz.prog 169 #[.slice (some a) 0 c] w fun e w'=> ∃v',e= .returned v'∧w'.ownsRow w.heap.size 63 5 v' 0 []∧Below w.heap.size w w':=by
 obtain⟨i0,hi,hz0,hz1,hz2⟩:=info_parts infoJp
 have q24: ∀(w:World) (a:Option Addr) (n c n' c':Nat),(binOp .eql 60 (.slice a n c) (.slice none n' c')).run Tryz.prog w= .ok (.bool a.isNone) w:=fun w a n c n' c'=>Lib.run_eql_slice_nil w _ _ a n c n' c' Tryz.underlying60
 go_enter Tryz.func169,Tryz.ntmps169
 go_wp2_with(at_builtin;refine wpList_append_own _ rfl _ _ 60 rfl w.heap.size 63 i0 (.agg zeros5.toArray) 5 80 Tryz.underlying60 hi hz0 hz1 hz2 rfl (by decide) _ _ _ rfl (World.ownsRow_made w #[] 0 (Nat.le_refl _) (Nat.zero_le _) rfl) a 0 c [] rfl rfl (by intro j u hj;simp at hj) (by intro u hu;simp at hu) (by unfold maxLen;omega) (by omega) (by simp) ?_)
 intro v' w1 hown hgrow hnil
 go_wp2
 go_ret
 exact⟨v',rfl,by simpa using hown,((Below.refl _ w).alloc (Nat.le_refl _) _).grown hgrow (by simp) (by intro k hk;simp[Value.ownBlock]at hk;omega)⟩
theorem cloneJ_any (W:World) (S:Nat→Prop) (hS: ∀b,S b→b<W.heap.size) (l:List J) (hl:l.length≤1000000) (A:Option Addr) (c:Nat) (hc:l≠[]→ ∃b o,A=some ⟨b,o,none⟩∧S b∧b<W.heap.size∧RepCS W S b o l):
  Calls Tryz.prog 169 #[.slice A l.length c] W fun e w'=> ∃v' xs,e= .returned v'∧w'.ownsRow W.heap.size 63 5 v' l.length xs∧FlatJ w' S l xs∧Below W.heap.size W w':=by
 by_cases hne:l=[]
 ·subst hne
  cases A with
  |none=>
   refine(show Calls Tryz.prog 169 #[.slice none 0 c] W _ from AnyE.slices_Clone_nil Tryz.cloneJ 0 c W).mono ?_
   rintro e w' ⟨rfl,rfl⟩
   exact⟨_,[],rfl,World.ownsRow_nil _ _ _ _,rfl,Below.refl _ _⟩
  |some a=>
   refine(cloneJ_zero a c W).mono ?_
   rintro e w' ⟨v',rfl,hown,hb⟩
   exact⟨v',[],rfl,hown,rfl,hb⟩
 ·obtain⟨b,o,rfl,hSb,hlt,hcs⟩:=hc hne
  obtain⟨xs,hf,hcell,hone⟩:=hcs.flat
  obtain⟨i0,hi,hz0,hz1,hz2⟩:=info_parts infoJp
  have:=AnyE.slices_Clone Tryz.cloneJ i0 _ 5 80 hi hz0 hz1 hz2 rfl (by decide) Tryz.sizeOf63 b o l.length c xs W hf.length (by unfold maxLen;omega) (by omega) hcell hone
  refine(show Calls Tryz.prog 169 #[.slice (some ⟨b,o,none⟩) l.length c] W _ from this).mono ?_
  rintro e w' ⟨v',rfl,hown,_,hb⟩
  exact⟨v',xs,rfl,hown,hf.keeps (Keeps.below hb (fun b h _=>hS b h)) (fun b h _=>h),hb⟩
inductive Sm:J→Prop
 |mk {kind n:Int} {s:ByteArray} {l:List J} {k:List ByteArray}:l.length≤1000000→k.length≤1000000→(∀x∈l,Sm x)→Sm (.mk kind n s l k)
def Cl (W:World) (j:J) (e:Ending) (w':World):Prop:= ∃v',e= .returned v'∧RepS w' (fun b=>W.heap.size≤b) j v'∧Below W.heap.size W w'
def ClAsk (j:J):Prop:= ∀(S:Nat→Prop) (W:World) (v:Value),(∀b,S b→b<W.heap.size)→RepS W S j v→Calls Tryz.prog 98 #[v] W (Cl W j)
def ClAll (W:World) (l:List J) (n:Nat) (e:Ending) (w':World):Prop:=
 ∃A c,e= .returned (.slice A n c)∧(l≠[]→ ∃b o,A=some ⟨b,o,none⟩∧W.heap.size≤b∧b<w'.heap.size∧RepCS w' (fun b=>W.heap.size≤b) b o l)∧Below W.heap.size W w'
theorem cloneAll_of (l:List J) (hl:l.length≤1000000) (hcl: ∀x∈l,ClAsk x) (W:World) (S:Nat→Prop) (hS: ∀b,S b→b<W.heap.size) (A:Option Addr) (c:Nat) (hc:l≠[]→ ∃b o,A=some ⟨b,o,none⟩∧S b∧b<W.heap.size∧RepCS W S b o l):
  Calls Tryz.prog 133 #[.slice A l.length c] W (ClAll W l l.length):=by
 have HCL:=Lib.hid hcl
 have HS:=Lib.hid hS
 have HCJ:=Lib.hid (cloneJ_any W S hS l hl A c hc)
 obtain⟨n,hn⟩: ∃n,n=l.length:=⟨_,rfl⟩
 have HN:=Lib.hid hn
 rw[←hn]at HCJ hl⊢
 clear hcl hS hc hn
 go_enter Tryz.func133,Tryz.ntmps133
 go_wp2_with fail
 refine HCJ.out.mono ?_
 rintro e w1 ⟨v,xs,rfl,hown,hf,hb⟩
 have HF:=Lib.hid hf
 have HB:=Lib.hid hb
 rcases ziv hown with rfl|⟨g,cap,rfl⟩
 ·have h0:n=0:=by
   rcases hown.2 with⟨_,h⟩|⟨_,_,_,h,_⟩
   ·exact h
   ·simp at h
  have HN0:Hid (l=[]):=Lib.hid (List.eq_nil_of_length_eq_zero (by rw[←HN.out];exact h0))
  subst h0
  clear hown hf hb
  go_wp2_with fail
  go_loopw[10] (fun v wr=>v= .int .i64 0∧wr=w1) (fun _ _=>0)
  case atStart=>exact⟨rfl,rfl⟩
  case round=>
   obtain⟨rfl,rfl⟩:=hrel
   go_wp2
   go_ret
   exact⟨_,_,rfl,fun h=>absurd HN0.out h,HB.out⟩
 ·have HOWN:=Lib.hid hown
  clear hown hf hb
  go_wp2_with fail
  go_loopw[10] (fun v wr=> ∃(j:Nat) (ys zs:List Value),v= .int .i64 (j:Int)∧j≤n∧CInv W wr S l j g cap ys zs) (fun v _=>n-(intOf v).toNat)
  case atStart=>exact⟨0,[],xs,rfl,Nat.zero_le _,by rw[←HN.out];exact HOWN.out,rfl,HF.out,HB.out⟩
  case round=>
   obtain⟨j,ys,zs,rfl,hj,hI⟩:=hrel
   have HI:=Lib.hid hI
   by_cases hlt:j<n
   ·have hjl:j<l.length:=by rw[←HN.out];exact hlt
    have hold:=hI.old
    rw[List.drop_eq_getElem_cons hjl]at hold
    obtain⟨z0,z1,z2,z3,z4,zs2,rfl,hx,_⟩:=hold
    have hyl:ys.length=j*5:=by rw[hI.new.length,List.length_take,Nat.min_eq_left (by omega)]
    have hop:=hx.open
    obtain⟨vk,A2,c2,e,_,⟨K2,d2,ek,_⟩,_⟩:=hop
    simp only[Value.agg.injEq,Array.mk.injEq,List.cons.injEq,and_true]at e
    obtain⟨y0,hy0⟩: ∃a,a=l[j].kind:=⟨_,rfl⟩
    obtain⟨y1,hy1⟩: ∃a,a=l[j].n:=⟨_,rfl⟩
    obtain⟨y2,hy2⟩: ∃a,a=l[j].s:=⟨_,rfl⟩
    obtain⟨y3,hy3⟩: ∃a,a=l[j].l.length:=⟨_,rfl⟩
    obtain⟨y4,hy4⟩: ∃a,a=l[j].k.length:=⟨_,rfl⟩
    rw[←hy0,←hy1,←hy2,←hy3]at e
    rw[←hy4]at ek
    obtain⟨rfl,rfl,rfl,rfl,e4⟩:=e
    subst ek;subst e4
    have ho:=hI.own
    have hcell: ∀k u,(ys++ .int .i64 y0:: .int .i64 y1:: .string y2:: .slice A2 y3 c2:: .slice K2 y4 d2::zs2)[k]? =some u→wr.cell? ⟨g,k,none⟩=some u:=fun k u hu=>by have:=ho.cells rfl k u hu;rwa [Addr.add_mid,Nat.zero_add]at this
    have e0:wr.cell? ⟨g,j*5,none⟩=some (.int .i64 y0):=hcell _ _ (by rw[List.getElem?_append_right (by omega),hyl,Nat.sub_self];rfl)
    have e1:wr.cell? ⟨g,j*5+1,none⟩=some (.int .i64 y1):=hcell _ _ (by rw[List.getElem?_append_right (by omega),hyl,show j*5+1-j*5=1 by omega];rfl)
    have e2:wr.cell? ⟨g,j*5+2,none⟩=some (.string y2):=hcell _ _ (by rw[List.getElem?_append_right (by omega),hyl,show j*5+2-j*5=2 by omega];rfl)
    have e3:wr.cell? ⟨g,j*5+3,none⟩=some (.slice A2 y3 c2):=hcell _ _ (by rw[List.getElem?_append_right (by omega),hyl,show j*5+3-j*5=3 by omega];rfl)
    have e4:wr.cell? ⟨g,j*5+4,none⟩=some (.slice K2 y4 d2):=hcell _ _ (by rw[List.getElem?_append_right (by omega),hyl,show j*5+4-j*5=4 by omega];rfl)
    have hsz:=hI.bel.size
    have HX:=Lib.hid (RepS.keeps (Keeps.grown (World.grownBy_alloc wr (.cells #[.int .i64 y0,.int .i64 y1,.string y2,.slice A2 y3 c2,.slice K2 y4 d2] 63) none) (fun b _ e=>by cases e)) (fun b h _=>h) _ _ hx)
    have HC:=Lib.hid (HCL.out l[j] (List.getElem_mem hjl) S (wr.alloc (.cells #[.int .i64 y0,.int .i64 y1,.string y2,.slice A2 y3 c2,.slice K2 y4 d2] 63)) _ (fun b h=>by have:=HS.out b h;simp;omega) HX.out)
    have hlI:(j:Int)<(n:Int):=by omega
    have hjI:(0:Int)≤(j:Int):=by omega
    clear hI hx hyl hy0 hy1 hy2 hy3 hy4 ho hcell
    go_wp2_with fail
    refine HC.out.mono ?_
    rintro e w4 ⟨v',rfl,hrep,hb4⟩
    obtain⟨vk,A3,c3,rfl, -,⟨K3,d3,rfl, -, -⟩, -, -⟩:=hrep.open
    obtain⟨x0,hx0⟩: ∃a,a=l[j].kind:=⟨_,rfl⟩
    obtain⟨x1,hx1⟩: ∃a,a=l[j].n:=⟨_,rfl⟩
    obtain⟨x2,hx2⟩: ∃a,a=l[j].s:=⟨_,rfl⟩
    obtain⟨x3,hx3⟩: ∃a,a=l[j].l.length:=⟨_,rfl⟩
    obtain⟨x4,hx4⟩: ∃a,a=l[j].k.length:=⟨_,rfl⟩
    rw[←hx0,←hx1,←hx2,←hx3,←hx4]at hrep⊢
    have HB4:=Lib.hid ((zad wr (.cells #[.int .i64 y0,.int .i64 y1,.string y2,.slice A2 y3 c2,.slice K2 y4 d2] 63)).trans (hb4.mono (by simp)))
    have HST:=Lib.hid (HI.out.step HS.out hjl rfl HB4.out (RepS.keeps (Keeps.refl _ w4) (fun b (h:_≤b) _=>show wr.heap.size≤b by simp at h;omega) _ _ hrep))
    have hglt:g<wr.heap.size:=(HI.out.own.lt g rfl).2
    have q0:=(HB4.out.cell (p:=⟨g,j*5,none⟩) hglt).trans e0
    have q1:=(HB4.out.cell (p:=⟨g,j*5+1,none⟩) hglt).trans e1
    have q2:=(HB4.out.cell (p:=⟨g,j*5+2,none⟩) hglt).trans e2
    have q3:=(HB4.out.cell (p:=⟨g,j*5+3,none⟩) hglt).trans e3
    have q4:=(HB4.out.cell (p:=⟨g,j*5+4,none⟩) hglt).trans e4
    have hown4:w4.ownsRow W.heap.size 63 5 (.slice (some ⟨g,0,none⟩) l.length cap) l.length _:=HI.out.own.kept (zaX HB4.out none) (.inr (by simp[Value.ownBlock]))
    obtain⟨f0,f1,f2,f3,f4⟩:w4.frozen? ⟨g,j*5,none⟩=false∧w4.frozen? ⟨g,j*5+1,none⟩=false∧w4.frozen? ⟨g,j*5+2,none⟩=false∧w4.frozen? ⟨g,j*5+3,none⟩=false∧w4.frozen? ⟨g,j*5+4,none⟩=false:=⟨zct hown4 _,zct hown4 _,zct hown4 _,zct hown4 _,zct hown4 _⟩
    clear hx0 hx1 hx2 hx3 hx4 hrep hb4 e0 e1 e2 e3 e4 hown4
    go_wp2
    go_roundw
    case rel=>exact⟨j+1,_,zs2,by go_num,by omega,HST.out⟩
    case measure=>simp[intOf];omega
   ·obtain rfl:j=n:=by omega
    have hlI: ¬(j:Int)<(j:Int):=by omega
    have hsz:=hI.bel.size
    clear hI
    go_wp2
    go_ret
    refine⟨_,_,rfl,fun _=>⟨g,0,rfl,(HI.out.own.lt g rfl).1,(HI.out.own.lt g rfl).2,?_⟩,HI.out.bel⟩
    have hnew:=HI.out.new
    have hz:zs=[]:=by have:=HI.out.old.length;rw[List.length_drop,←HN.out,Nat.sub_self,Nat.zero_mul]at this;exact List.eq_nil_of_length_eq_zero this
    rw[List.take_of_length_le (by rw[←HN.out];exact Nat.le_refl _)]at hnew
    refine hnew.cells (fun b h _=>h.1) fun k u hu=> ?_
    have:=HI.out.own.cells rfl k u (by rw[hz,List.append_nil];exact hu)
    rwa [Addr.add_mid]at this
theorem zjn {S T:Nat→Prop} {W W':World} (hk:Keeps S W W') (hT: ∀b,S b→b<W.heap.size→T b) {b:Nat} (hS:S b) (hlt:b<W.heap.size): ∀(l:List J) (o:Nat),RepCS W S b o l→RepCS W' T b o l:=fun l=>by
 induction l with
 |nil=>intro o _;rw[RepCS];trivial
 |cons x r ihr=>
  intro o h
  rw[RepCS]at h⊢
  obtain⟨⟨v,h1,h2⟩,h3⟩:=h
  exact⟨⟨v,RepS.keeps hk hT x v h1,h2.keeps hS hlt hk⟩,ihr (o+5) h3⟩
theorem grown_two (W:World) (a b:Obj):W.grownBy ((W.alloc a).alloc b) none:=(World.grownBy_alloc W a none).trans (World.grownBy_alloc _ b none)
theorem cloneK_any (W:World) (S:Nat→Prop) (hS: ∀b,S b→b<W.heap.size) (k:List ByteArray) (hl:k.length≤1000000) (v:Value) (h:RepKS W S k v):
  Calls Tryz.prog 132 #[v] W fun e w'=> ∃v',e= .returned v'∧(v'= .slice none 0 0∨ ∃g cap,v'= .slice (some ⟨g,0,none⟩) k.length cap)∧RepKS w' (fun b=>W.heap.size≤b) k v'∧Below W.heap.size W w':=by
 obtain⟨A,c,rfl,hkl,hc⟩:=h
 have fin: ∀(w':World) (v':Value),(∀t∈k,t.size≤9223372036854775807)→w'.ownsRow W.heap.size 9 1 v' k.length (k.map Value.string)→Below W.heap.size W w'→(v'= .slice none 0 0∨ ∃g cap,v'= .slice (some ⟨g,0,none⟩) k.length cap)∧RepKS w' (fun b=>W.heap.size≤b) k v'∧Below W.heap.size W w':=fun w' v' hs hown hb=>
  ⟨by rcases hown.2 with⟨h,_⟩|⟨g,cap,cur,h,_⟩;exact .inl h;exact .inr ⟨g,cap,h⟩,own_names hown (fun b h=>h) hkl hs,hb⟩
 by_cases hne:k=[]
 ·subst hne
  cases A with
  |none=>
   refine(Tryz.slices_Clone_string_nil 0 c W).mono ?_
   rintro e w' ⟨rfl,rfl⟩
   exact⟨_,rfl,fin _ _ (fun t ht=>by cases ht) (World.ownsRow_nil _ _ _ _) (Below.refl _ _)⟩
  |some a=>
   refine(Tryz.slices_Clone_string_zero a c W).mono ?_
   rintro e w' ⟨v',rfl,hown,_,hb⟩
   exact⟨_,rfl,fin _ _ (fun t ht=>by cases ht) hown hb⟩
 ·obtain⟨b,o,rfl,hSb,hlt,hcs⟩:=hc hne
  have hs: ∀t∈k,t.size≤9223372036854775807:=fun t ht=>by
   obtain⟨i,hi,rfl⟩:=List.mem_iff_getElem.1 ht
   obtain⟨u,h1,h2,_⟩:=hcs i hi
   rw[List.getElem?_eq_getElem hi]at h1
   injection h1 with h1
   rw[h1];exact h2
  refine(Tryz.slices_Clone_string b o k.length c k W (Nat.le_refl _) (by omega) (fun j hj=> ?_)).mono ?_
  ·obtain⟨u,h1,_,h3⟩:=hcs j hj
   rw[h3,List.getD_eq_getElem?_getD,h1];rfl
  ·rintro e w' ⟨v',rfl,hown,_,hb⟩
   rw[List.take_length]at hown
   exact⟨_,rfl,fin _ _ hs hown hb⟩
theorem clone_of (kind n:Int) (s:ByteArray) (l:List J) (k:List ByteArray) (hl:l.length≤1000000) (hk:k.length≤1000000) (hcl: ∀x∈l,ClAsk x):ClAsk (.mk kind n s l k):=fun S W v hS hv=>by
 rw[RepS]at hv
 obtain⟨vk,A,c,rfl,hs,hkk,hll,hc⟩:=hv
 have hkk0:=hkk
 obtain⟨K,d,rfl,_,_⟩:=hkk0
 obtain⟨W1,hW1⟩: ∃w,w=(W.alloc (.cells #[.int .i64 kind,.int .i64 n,.string s,.slice A l.length c,.slice K k.length d] 63)).alloc (.cells zeros5.toArray 63):=⟨_,rfl⟩
 have g1:W.grownBy W1 none:=by rw[hW1];exact grown_two _ _ _
 have hb1:Blk W1 W.heap.size 63 [.int .i64 kind,.int .i64 n,.string s,.slice A l.length c,.slice K k.length d]:=by rw[hW1];exact Blk.grownN (zck W rfl [.int .i64 kind,.int .i64 n,.string s,.slice A l.length c,.slice K k.length d] _) (World.grownBy_alloc _ _ none)
 have hb2:Blk W1 (W.heap.size+1) 63 zeros5:=by rw[hW1];exact zck _ (by simp) zeros5 _
 have hz1:W1.heap.size=W.heap.size+2:=by rw[hW1];simp
 have kp1:Keeps S W W1:=Keeps.grown g1 (fun b _ e=>by cases e)
 have HCK:=Lib.hid (cloneK_any W1 S (fun b h=>by have:=hS b h;omega) k hk _ (hkk.keeps kp1 (fun b h _=>h)))
 have HB1:=Lib.hid hb1
 have HB2:=Lib.hid hb2
 have HG1:=Lib.hid g1
 have HZ1:=Lib.hid hz1
 have HS:=Lib.hid hS
 have HCC:=Lib.hid hc
 have HCL:=Lib.hid hcl
 have HKP:=Lib.hid kp1
 have HW1:=Lib.hid hW1
 obtain⟨nl,hnl⟩: ∃a,a=l.length:=⟨_,rfl⟩
 obtain⟨nk,hnk⟩: ∃a,a=k.length:=⟨_,rfl⟩
 have HNL:=Lib.hid hnl
 have HNK:=Lib.hid hnk
 rw[←hnl,←hnk]at HB1 HW1⊢
 rw[←hnk]at HCK
 clear g1 hb1 hb2 hz1 kp1 hS hc hcl hkk hW1 hnl hnk
 go_enter Tryz.func98,Tryz.ntmps98
 go_wp2_with fail
 rw[show((W.alloc (.cells #[.int .i64 kind,.int .i64 n,.string s,.slice A nl c,.slice K nk d] 63)).alloc (.cells #[.int .i64 0,.int .i64 0,.string ⟨#[]⟩,.slice none 0 0,.slice none 0 0] 63))=W1 from HW1.out.symm]
 refine HCK.out.mono ?_
 rintro e w2 ⟨v2,rfl,hv2,hrk,hb⟩
 obtain⟨A2,c2,rfl⟩: ∃A2 c2,v2= .slice A2 nk c2:=by obtain⟨A2,c2,h,_⟩:=hrk;exact⟨A2,c2,by rw[HNK.out];exact h⟩
 have hB2:Blk w2 W.heap.size 63 [.int .i64 kind,.int .i64 n,.string s,.slice A nl c,.slice K nk d]:=HB1.out.below hb (by have:=HZ1.out;omega)
 have hZ2:Blk w2 (W.heap.size+1) 63 zeros5:=HB2.out.below hb (by have:=HZ1.out;omega)
 have f4:=hB2.frozen 4
 have q4:w2.cell? ⟨W.heap.size,4,none⟩=some (.slice K nk d):=hB2.cell 4
 obtain⟨w3,hw3⟩: ∃w,w=w2.setCell ⟨W.heap.size,4,none⟩ (.slice A2 nk c2):=⟨_,rfl⟩
 have hB3:Blk w3 W.heap.size 63 [.int .i64 kind,.int .i64 n,.string s,.slice A nl c,.slice A2 nk c2]:=by rw[hw3];exact hB2.setCell 4 _
 have g23:w2.grownBy w3 (some W.heap.size):=by rw[hw3];exact zaV _ _ _ _
 have hZ3:Blk w3 (W.heap.size+1) 63 zeros5:=hZ2.grown g23 (by simp)
 have hz3:W.heap.size+2≤w3.heap.size:=by have:=HZ1.out;have:=hb.size;have:=g23.size;omega
 have kp3:Keeps S W w3:=(HKP.out.trans (Keeps.below hb (fun b h hlt=>by have:=HS.out b h;have:=HZ1.out;omega))).trans (Keeps.grown g23 (fun b h e=>by injection e with e;have:=HS.out b h;omega))
 have hbl3:Below W.heap.size W w3:=by
  have h1:Below W.heap.size W W1:=by rw[HW1.out];exact((Below.refl _ W).alloc (Nat.le_refl _) _).alloc (by simp) _
  exact(h1.trans (hb.mono (by have:=HZ1.out;omega))).grown g23 (by have:=hb.size;have:=HZ1.out;omega) (by intro k hk;injection hk with hk;omega)
 have hrk3:RepKS w3 (fun b=>W.heap.size+2≤b) k (.slice A2 nk c2):=hrk.keeps (Keeps.grown g23 (fun b h e=>by injection e with e;have:=HZ1.out;replace h:W1.heap.size≤b:=h;omega)) (fun b h _=>by have:=HZ1.out;replace h:W1.heap.size≤b:=h;show W.heap.size+2≤b;omega)
 have HCA:=Lib.hid (cloneAll_of l hl HCL.out w3 S (fun b h=>by have:=HS.out b h;omega) A c (fun hne=>by
  obtain⟨b,o,e,hSb,hlt,hr⟩:=HCC.out hne
  exact⟨b,o,e,hSb,by have:=HS.out b hSb;omega,zjn kp3 (fun _ h _=>h) hSb hlt l o hr⟩))
 have HW3:=Lib.hid hw3
 have HB3:=Lib.hid hB3
 have HZ3:=Lib.hid hZ3
 have Hz3:=Lib.hid hz3
 have HBL3:=Lib.hid hbl3
 have HRK3:=Lib.hid hrk3
 rw[←HNL.out]at HCA
 have l3:(w2.setCell ⟨W.heap.size,4,none⟩ (.slice A2 nk c2)).cell? ⟨W.heap.size,3,none⟩=some (.slice A nl c):=by rw[←HW3.out];exact hB3.cell 3
 clear hv2 hrk hB2 hZ2 hB3 g23 hZ3 hz3 kp3 hbl3 hrk3 hb
 go_wp2_with fail
 rw[show(w2.setCell ⟨W.heap.size,4,none⟩ (.slice A2 nk c2))=w3 from HW3.out.symm]
 clear l3 q4 f4
 refine HCA.out.mono ?_
 rintro e w4 ⟨A3,c3,rfl,hne3,hb4⟩
 have hB4:=HB3.out.below hb4 (by have:=Hz3.out;omega)
 have hZ4:=HZ3.out.below hb4 (by have:=Hz3.out;omega)
 obtain⟨w5,hw5⟩: ∃w,w=w4.setCell ⟨W.heap.size,3,none⟩ (.slice A3 nl c3):=⟨_,rfl⟩
 have g45:w4.grownBy w5 (some W.heap.size):=by rw[hw5];exact zaV _ _ _ _
 have hB5:Blk w5 W.heap.size 63 [.int .i64 kind,.int .i64 n,.string s,.slice A3 nl c3,.slice A2 nk c2]:=by rw[hw5];exact hB4.setCell 3 _
 have hZ5:Blk w5 (W.heap.size+1) 63 zeros5:=hZ4.grown g45 (by simp)
 have f3:=hB4.frozen 3
 have q3:=hB4.cell 3
 obtain⟨a0,a1,a2,a4⟩:w4.cell? ⟨W.heap.size,0,none⟩=some (.int .i64 kind)∧w4.cell? ⟨W.heap.size,1,none⟩=some (.int .i64 n)∧w4.cell? ⟨W.heap.size,2,none⟩=some (.string s)∧w4.cell? ⟨W.heap.size,4,none⟩=some (.slice A2 nk c2):=⟨hB4.cell 0,hB4.cell 1,hB4.cell 2,hB4.cell 4⟩
 obtain⟨b0,b1,b2,b3,b4⟩:w4.cell? ⟨W.heap.size+1,0,none⟩=some (.int .i64 0)∧w4.cell? ⟨W.heap.size+1,1,none⟩=some (.int .i64 0)∧w4.cell? ⟨W.heap.size+1,2,none⟩=some (.string ⟨#[]⟩)∧w4.cell? ⟨W.heap.size+1,3,none⟩=some (.slice none 0 0)∧w4.cell? ⟨W.heap.size+1,4,none⟩=some (.slice none 0 0):=⟨hZ4.cell 0,hZ4.cell 1,hZ4.cell 2,hZ4.cell 3,hZ4.cell 4⟩
 obtain⟨g0,g1,g2,g3,g4⟩:w4.frozen? ⟨W.heap.size+1,0,none⟩=false∧w4.frozen? ⟨W.heap.size+1,1,none⟩=false∧w4.frozen? ⟨W.heap.size+1,2,none⟩=false∧w4.frozen? ⟨W.heap.size+1,3,none⟩=false∧w4.frozen? ⟨W.heap.size+1,4,none⟩=false:=⟨hZ4.frozen 0,hZ4.frozen 1,hZ4.frozen 2,hZ4.frozen 3,hZ4.frozen 4⟩
 have hfin:=zdZ hZ5 (.int .i64 kind) (.int .i64 n) (.string s) (.slice A3 nl c3) (.slice A2 nk c2)
 rw[hw5]at hfin
 have HF:=Lib.hid hfin
 have HB4:=Lib.hid hb4
 have HN3:=Lib.hid hne3
 have HW5:=Lib.hid hw5
 have HG45:=Lib.hid g45
 clear hB4 hZ4 g45 hB5 hZ5 hfin hb4 hne3 hw5
 go_wp2
 refine bodyPost_ret (zbW Tryz.results98 _ _ (W.heap.size+1) _ _ _ rfl HF.out.1 Tryz.underlying63 rfl zau) rfl ?_
 have g6:=HF.out.2
 rw[←HW5.out]at g6⊢
 have fin: ∀w6,w5.grownBy w6 (some (W.heap.size+1))→Cl W (.mk kind n s l k) (.returned (.agg #[.int .i64 kind,.int .i64 n,.string s,.slice A3 nl c3,.slice A2 nk c2])) w6:=fun w6 g6=>by
  have hz3:=Hz3.out
  have hz4:=HB4.out.size
  have hz5:=HG45.out.size
  have hz6:=g6.size
  have kp36:Keeps (fun b=>W.heap.size+2≤b) w3 w6:=((Keeps.below HB4.out (fun b _ h=>h)).trans (Keeps.grown HG45.out (fun b (h:_≤b) e=>by injection e with e;omega))).trans (Keeps.grown g6 (fun b (h:_≤b) e=>by injection e with e;omega))
  have kp46:Keeps (fun b=>w3.heap.size≤b) w4 w6:=(Keeps.grown HG45.out (fun b (h:_≤b) e=>by injection e with e;omega)).trans (Keeps.grown g6 (fun b (h:_≤b) e=>by injection e with e;omega))
  have hbl:Below W.heap.size W w6:=((HBL3.out.trans (HB4.out.mono (by omega))).grown HG45.out (by omega) (by intro k hk;injection hk with hk;omega)).grown g6 (by omega) (by intro k hk;injection hk with hk;omega)
  refine⟨_,rfl,?_,hbl⟩
  rw[RepS]
  refine⟨.slice A2 nk c2,A3,c3,by rw[HNL.out],hs,HRK3.out.keeps kp36 (fun b (h:_≤b) _=>show W.heap.size≤b by omega),hll,fun hne=> ?_⟩
  obtain⟨b,o,e,h1,h2,h3⟩:=HN3.out hne
  exact⟨b,o,e,show W.heap.size≤b by omega,by omega,zjn kp46 (fun b (h:_≤b) _=>show W.heap.size≤b by omega) (show w3.heap.size≤b from h1) h2 l o h3⟩
 exact fin _ g6
theorem clone_any: ∀(j:J),Sm j→ClAsk j:=fun j=>by
 induction j using J.ind with
 |h kind n s l k ih=>
  intro h
  cases h with
  |mk h1 h2 h3=>exact clone_of kind n s l k h1 h2 fun x hx=>ih x hx (h3 x hx)
theorem get_idx (name:ByteArray): ∀(k:List ByteArray) (l:List J) (i:Nat),(Lib.idxFromS k name i= -1∧getL k l name=none)∨ ∃j:Nat,Lib.idxFromS k name i=((i+j:Nat):Int)∧j<k.length∧getL k l name=l[j]?
 |[],l,i=> .inl ⟨rfl,by cases l<;>rfl⟩
 |n::r,l,i=>by
  by_cases h:n=name
  ·refine .inr ⟨0,by simp[Lib.idxFromS,h],by simp,?_⟩
   cases l with
   |nil=>rfl
   |cons x t=>rw[getL,if_pos h];rfl
  ·have hi:Lib.idxFromS (n::r) name i=Lib.idxFromS r name (i+1):=by simp[Lib.idxFromS,h]
   rw[hi]
   cases l with
   |nil=>
    rcases get_idx name r [] (i+1)with⟨h1,_⟩|⟨j,h1,h2,_⟩
    ·exact .inl ⟨h1,rfl⟩
    ·exact .inr ⟨j+1,by rw[h1];congr 1;omega,by simp;omega,by simp[getL]⟩
   |cons x t=>
    rw[getL,if_neg h]
    rcases get_idx name r t (i+1)with⟨h1,h3⟩|⟨j,h1,h2,h3⟩
    ·exact .inl ⟨h1,h3⟩
    ·exact .inr ⟨j+1,by rw[h1];congr 1;omega,by simp;omega,by rw[h3];simp⟩
theorem RepJ.toS {W:World} {j:J} {v:Value} (h:RepJ W j v):RepS W (fun b=>b<W.heap.size) j v:=RepS.keeps (Keeps.refl _ W) (fun b _ hb=>hb) _ _ (RepS.ofJ _ _ h)
theorem index_any (k:List ByteArray) (v:Value) (name:ByteArray) (W:World) (h:RepK W k v):Calls Tryz.prog 97 #[v,.string name] W fun e w'=>e= .returned (.int .i64 (Lib.idxFromS k name 0))∧W=w':=by
 obtain⟨A,c,rfl,hl,hc⟩:=h
 by_cases hk:k=[]
 ·subst hk
  refine(Tryz.slices_Index_string_empty A c name W).mono ?_
  rintro e w' ⟨rfl,rfl⟩;exact⟨rfl,rfl⟩
 ·obtain⟨b,o,rfl,_,hcs⟩:=hc hk
  have:=Tryz.slices_Index_string b o k.length c k name W (Nat.le_refl _) hl (fun j hj=>by
   obtain⟨t,h1,_,h2⟩:=hcs j hj
   rw[List.getD_eq_getElem?_getD,h1];exact h2)
  rw[List.take_length]at this
  refine this.mono ?_
  rintro e w' ⟨rfl,rfl⟩;exact⟨rfl,rfl⟩
theorem get_anyS (a:J) (va:Value) (name:ByteArray) (W:World) (ha:RepJ W a va) (hsm: ∀x∈a.l,Sm x):
  Calls Tryz.prog 66 #[va,.string name] W fun e w'=> ∃v,e= .returned (.tuple #[v,.bool (getJ a name).isSome])∧RepS w' (fun b=>W.heap.size≤b) ((getJ a name).getD zeroJ) v∧Below W.heap.size W w':=by
 obtain⟨vk,A,c,rfl,hs,hk,hl,hc⟩:=ha.open
 have HIX:=Lib.hid (fun(W':World) (hW:Below W.heap.size W W')=>index_any a.k vk name W' (hk.below hW))
 obtain⟨K,d,rfl,hkl,_⟩:=hk.open
 have HC:=Lib.hid hc
 have hgi:=get_idx name a.k a.l 0
 obtain⟨ix,hix⟩: ∃ix,ix=Lib.idxFromS a.k name 0:=⟨_,rfl⟩
 rw[←hix]at HIX hgi
 obtain⟨s,hs1⟩: ∃s,s=a.s:=⟨_,rfl⟩
 obtain⟨kd,hk1⟩: ∃k,k=a.kind:=⟨_,rfl⟩
 obtain⟨n,hn1⟩: ∃k,k=a.n:=⟨_,rfl⟩
 obtain⟨p,hp1⟩: ∃k,k=a.l.length:=⟨_,rfl⟩
 obtain⟨q,hq1⟩: ∃k,k=a.k.length:=⟨_,rfl⟩
 rw[←hs1,←hk1,←hn1,←hp1,←hq1]
 rw[←hq1]at HIX hkl hgi
 rw[←hp1]at hl
 have HP:=Lib.hid hp1
 have HSM:=Lib.hid hsm
 have HG:Hid ((getJ a name)=if kd=5 then getL a.k a.l name else none):=Lib.hid (by rw[hk1];rfl)
 have HB0:=Lib.hid (show Below W.heap.size W ((W.alloc (.cells #[.int .i64 kd,.int .i64 n,.string s,.slice A p c,.slice K q d] 63)).alloc (.cells #[.int .i64 0,.int .i64 0,.string ⟨#[]⟩,.slice none 0 0,.slice none 0 0] 63))from((Below.refl _ _).alloc (Nat.le_refl _) _).alloc (by simp) _)
 obtain⟨g,hg⟩: ∃g,g=getJ a name:=⟨_,rfl⟩
 rw[←hg]at HG⊢
 clear ha hk hc hs hs1 hk1 hn1 hp1 hq1 hix hsm hg
 by_cases hbad:kd≠5∨ix<0∨(p:Int)≤ix
 case pos=>
  have HN:Hid (g=none):=Lib.hid (by
   rw[HG.out]
   split
   ·rcases hgi with⟨_,h⟩|⟨j,h1,h2,h3⟩
    ·exact h
    ·rw[h3]
     exact List.getElem?_eq_none (by have:=HP.out;omega)
   ·rfl)
  rw[HN.out]
  have e5:(kd==5)=decide (kd=5):=by cases h:decide (kd=5)<;>simp_all
  clear hgi HG HN HSM HC e5
  by_cases h5:kd=5
  ·subst h5
   by_cases h6:ix<0
   ·have d6:decide (ix<0)=true:=decide_eq_true h6
    clear hbad
    go_enter Tryz.func66,Tryz.ntmps66
    go_wp2_with(go_at_call 97;(with_reducible refine(HIX.out _ HB0.out).mono ?_);rintro e w' ⟨rfl,rfl⟩)
    (try simp only[Exit.inBlock,Exit.then])
    refine bodyPost_ret (v:= .tuple #[.agg #[.int .i64 0,.int .i64 0,.string ⟨#[]⟩,.slice none 0 0,.slice none 0 0],.bool false]) ?_ rfl ⟨_,rfl,RepS.zero _ _,HB0.out⟩
    rw[results_cell_tmp rfl];go_simp
   ·have d6:decide (ix<0)=false:=decide_eq_false h6
    have h7:(p:Int)≤ix:=by
     rcases hbad with h|h|h
     ·exact absurd rfl h
     ·exact absurd h h6
     ·exact h
    have d7:decide ((p:Int)≤ix)=true:=decide_eq_true h7
    clear hbad
    go_enter Tryz.func66,Tryz.ntmps66
    go_wp2_with(go_at_call 97;(with_reducible refine(HIX.out _ HB0.out).mono ?_);rintro e w' ⟨rfl,rfl⟩)
    (try simp only[Exit.inBlock,Exit.then])
    refine bodyPost_ret (v:= .tuple #[.agg #[.int .i64 0,.int .i64 0,.string ⟨#[]⟩,.slice none 0 0,.slice none 0 0],.bool false]) ?_ rfl ⟨_,rfl,RepS.zero _ _,HB0.out⟩
    rw[results_cell_tmp rfl];go_simp
  ·have b5:(kd==5)=false:=by rw[beq_eq_false_iff_ne];exact h5
   clear hbad
   go_enter Tryz.func66,Tryz.ntmps66
   go_wp2_with(go_at_call 97;(with_reducible refine(HIX.out _ HB0.out).mono ?_);rintro e w' ⟨rfl,rfl⟩)
   (try simp only[Exit.inBlock,Exit.then])
   refine bodyPost_ret (v:= .tuple #[.agg #[.int .i64 0,.int .i64 0,.string ⟨#[]⟩,.slice none 0 0,.slice none 0 0],.bool false]) ?_ rfl ⟨_,rfl,RepS.zero _ _,HB0.out⟩
   rw[results_cell_tmp rfl];go_simp
 case neg=>
  obtain⟨h5,h6,h7⟩:kd=5∧ ¬ix<0∧ ¬(p:Int)≤ix:=by
   refine⟨Classical.byContradiction fun h=>hbad (.inl h),fun h=>hbad (.inr (.inl h)),fun h=>hbad (.inr (.inr h))⟩
  subst h5
  obtain⟨j,hj,hjl,hget⟩: ∃j:Nat,ix=(j:Int)∧j<a.l.length∧g=some (a.l.getD j zeroJ):=by
   rcases hgi with⟨h,_⟩|⟨j,h1,h2,h3⟩
   ·omega
   ·rw[Nat.zero_add]at h1
    have hjl:j<a.l.length:=by have:=HP.out;omega
    refine⟨j,h1,hjl,?_⟩
    rw[HG.out,if_pos rfl,h3,List.getD_eq_getElem?_getD,List.getElem?_eq_getElem hjl];rfl
  subst hj
  obtain⟨b,o,rfl,hb,hcs⟩:=HC.out (fun e=>by rw[e]at hjl;simp at hjl)
  obtain⟨v,hrep,a0,a1,a2,a3,a4,rfl,c0,c1,c2,c3,c4⟩:=hcs.at j hjl
  have hx:a.l.getD j zeroJ=a.l[j]:=by rw[List.getD_eq_getElem?_getD,List.getElem?_eq_getElem hjl];rfl
  rw[hx]at hget
  have hsmx:=HSM.out _ (List.getElem_mem hjl)
  obtain⟨x,hx1⟩: ∃x,x=a.l[j]:=⟨_,rfl⟩
  rw[←hx1]at hget hrep hsmx
  subst hget
  have HCL:=Lib.hid (fun(W':World) (hW:Below W.heap.size W W')=>clone_any x hsmx _ W' _ (fun b h=>h) (RepJ.toS (RepJ.below hW _ _ hrep)))
  obtain⟨W2,hW2⟩: ∃W2,W2=((W.alloc (.cells #[.int .i64 5,.int .i64 n,.string s,.slice (some ⟨b,o,none⟩) p c,.slice K q d] 63)).alloc (.cells #[.int .i64 0,.int .i64 0,.string ⟨#[]⟩,.slice none 0 0,.slice none 0 0] 63)):=⟨_,rfl⟩
  have HB2:Hid (Below W.heap.size W W2):=Lib.hid (by rw[hW2];exact HB0.out)
  have y0:=(HB2.out.cell (p:=⟨b,o+j*5,none⟩) hb).trans c0
  have y1:=(HB2.out.cell (p:=⟨b,o+j*5+1,none⟩) hb).trans c1
  have y2:=(HB2.out.cell (p:=⟨b,o+j*5+2,none⟩) hb).trans c2
  have y3:=(HB2.out.cell (p:=⟨b,o+j*5+3,none⟩) hb).trans c3
  have y4:=(HB2.out.cell (p:=⟨b,o+j*5+4,none⟩) hb).trans c4
  have hz:W2.heap.size=W.heap.size+2:=by rw[hW2];simp
  have hb2:Blk W2 (W.heap.size+1) 63 zeros5:=by rw[hW2];exact zck _ (by simp) zeros5 _
  have HW2:=Lib.hid hW2
  have d6:decide ((j:Int)<0)=false:=decide_eq_false h6
  have d7:decide ((p:Int)≤(j:Int))=false:=decide_eq_false h7
  have hi0:(0:Int)≤(j:Int):=by omega
  have hi1:(j:Int)<(p:Int):=by omega
  rw[hW2]at y0 y1 y2 y3 y4
  clear hbad hgi HG HSM HC hcs hrep hjl hx hx1 hsmx c0 c1 c2 c3 c4 hW2
  go_enter Tryz.func66,Tryz.ntmps66
  go_wp2_with(first
   |(go_at_call 97;(with_reducible refine(HIX.out _ HB0.out).mono ?_);rintro e w' ⟨rfl,rfl⟩)
   |(go_at_call 98;fail))
  refine(HCL.out _ HB0.out).mono ?_
  rw[←HW2.out]
  rintro e w3 ⟨v',rfl,hr,hbw⟩
  have HRS:=Lib.hid (And.intro hz hr)
  obtain⟨vk,A3,c9,rfl, -,⟨K3,d9,rfl, -, -⟩, -, -⟩:=RepJ.open (RepS.toJ _ _ hr)
  have hb3:=hb2.below hbw hb2.lt
  have HB3:=Lib.hid (HB2.out.trans (hbw.mono HB2.out.size))
  clear hr hbw hb2
  go_wp2_with(refine zac rfl none rfl _ (.tmp 4) (.tmp 31) rfl (W.heap.size+1) 0 [_,_,_,_,_] rfl rfl _ _ hb3 (by simp[zeros5]) zau (by intro v hv;simp at hv;rcases hv with rfl|rfl|rfl|rfl|rfl<;>rfl) ?_;intro w4 hb4 hgr;rw[zah _ _ (by simp[zeros5])]at hb4;have HB4:=Lib.hid (HB3.out.grown hgr HB3.out.size (by intro k hk;injection hk with hk;omega));have HG4:=Lib.hid hgr;clear hgr hb3;try go_frame)
  have z0:w4.cell? ⟨W.heap.size+1,0,none⟩=some (.int .i64 x.kind):=hb4.cell 0
  have z1:w4.cell? ⟨W.heap.size+1,1,none⟩=some (.int .i64 x.n):=hb4.cell 1
  have z2:w4.cell? ⟨W.heap.size+1,2,none⟩=some (.string x.s):=hb4.cell 2
  have z3:w4.cell? ⟨W.heap.size+1,3,none⟩=some (.slice A3 x.l.length c9):=hb4.cell 3
  have z4:w4.cell? ⟨W.heap.size+1,4,none⟩=some (.slice K3 x.k.length d9):=hb4.cell 4
  (try simp only[Exit.inBlock,Exit.then])
  refine bodyPost_ret (v:= .tuple #[.agg #[.int .i64 x.kind,.int .i64 x.n,.string x.s,.slice A3 x.l.length c9,.slice K3 x.k.length d9],.bool true]) ?_ rfl ⟨_,rfl,?_,HB4.out⟩
  ·rw[results_cell_tmp rfl];go_simp
  ·exact RepS.keeps (Keeps.grown HG4.out (fun b hb e=>by injection e with e;have:=HRS.out.1;have hb:W2.heap.size≤b:=hb;omega)) (fun b (h:W2.heap.size≤b) _=>show W.heap.size≤b from Nat.le_trans HB2.out.size h) _ _ HRS.out.2
theorem get_any (a:J) (va:Value) (name:ByteArray) (W:World) (ha:RepJ W a va) (hsm: ∀x∈a.l,Sm x):
  Calls Tryz.prog 66 #[va,.string name] W fun e w'=> ∃v,e= .returned (.tuple #[v,.bool (getJ a name).isSome])∧RepJ w' ((getJ a name).getD zeroJ) v∧Below W.heap.size W w':=by
 refine(get_anyS a va name W ha hsm).mono ?_
 rintro e w' ⟨v,h1,h2,h3⟩
 exact⟨v,h1,RepS.toJ _ _ h2,h3⟩
end Go.Proofs.YtceddodfddlncaaGreatDoor
