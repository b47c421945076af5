
import Derived.Test.YtlcljphbldjieaaGreatDoorJw44
set_option maxRecDepth 100000
set_option maxHeartbeats 16000000
set_option linter.all false
namespace Go.Proofs.YtlcljphbldjieaaGreatDoor
open Go Go.RowKit
def HeadTells (w:World) (ob:Nat) (xs:List Int) (c0 v1 c2 c3 k0 k1:Value) (e:Ending) (w':World):Prop:=
 w.grownBy w' (some ob)∧ ∃h0 h1 h2 h3 h4,e= .returned (.bool (zdd xs))∧Blk w' ob 122 [c0,v1,c2,c3,h0,h1,h2,h3,h4,k0,k1]∧RepS w' (fun b=>w.heap.size≤b) (zai xs).1 (.agg #[h0,h1,h2,h3,h4])
theorem JErr.ends {n pos:Int} {v:Value} {w:World} (h:JErr n pos v w):(n=0∧v= .nilIface)∨(n≠0∧ ∃d x,v= .iface d x):=by
 rcases h with⟨h,_,e⟩|⟨h,_,e⟩|⟨h,b,e,_⟩
 ·exact .inl ⟨h,e⟩
 ·exact .inr ⟨h,_,_,e⟩
 ·exact .inr ⟨h,_,_,e⟩
theorem hasN_three (n:ByteArray):hasN [sAlg,sKid,sTyp] n=decide (n=sAlg∨n=sKid∨n=sTyp):=by
 rw[Bool.eq_iff_iff,hasN_iff,decide_eq_true_eq];simp
theorem zhx {l:List Int} (h:(zai l).2.1=0):Sm (zai l).1∧((zai l).1.kind=5→(zai l).1.k.length≤256∧ ∀t∈(zai l).1.k,t.size≤1000000000):=by
 obtain⟨h1,h2⟩:=parsed_right l h
 obtain⟨h3,h4,_⟩:=(zjf _).1 h1
 refine⟨sm_of_rt h3 h4,fun hk=> ?_⟩
 cases hp:(zai l).1 with
 |mk kind n s ls k=>
  rw[hp]at h2 h3 h4 hk
  cases h3 with
  |mk _ _ _ _ _ a1 a2 a3 a4=>
   cases h2 with
   |mk _ _ _ _ _ m1 m2 m3=>
    refine⟨?_,m2⟩
    have:=(a2 hk).1
    have hl: ∀l:List J,l.length≤szLs l:=fun l=>by
     induction l with
     |nil=>exact Nat.zero_le _
     |cons y r ihr=>have:=szJ_pos y;rw[szLs];simp;omega
    have:=hl ls
    rw[szJ]at h4
    show k.length≤256
    omega
theorem zkq (ob:Nat) (xs:List Int) (c0 c2 c3 h0 h1 h2 h3 h4 k0 k1:Value) (A1:Option Addr) (n c:Nat) (w:World) (hbk:Blk w ob 122 [c0,.slice A1 n c,c2,c3,h0,h1,h2,h3,h4,k0,k1]) (hn:xs.length=n) (hn9:n≤9223372036854775807) (hx:Bytes xs) (hl:Lies w A1 xs) (ha:Ask5 w):
  Calls Tryz.prog 80 #[.pointer (some ⟨ob,0,none⟩)] w (HeadTells w ob xs c0 (.slice A1 n c) c2 c3 k0 k1):=by
 have HPT:=Lib.hid (parse_tells A1 xs n c w hn hn9 hx hl ha.marks ha.tab)
 have hob:=hbk.lt
 have HBK:=Lib.hid hbk
 have x1:w.cell? ⟨ob,1,none⟩=some (.slice A1 n c):=hbk.cell 1
 have HSMALL:=Lib.hid (fun h=>zhx (l:=xs) h)
 have HOKD:Hid (zdd xs=(decide ((zai xs).2.1=0)&&decide ((zai xs).1.kind=5)&&(zai xs).1.k.all (hasN [sAlg,sKid,sTyp]))):=Lib.hid (by
  unfold zdd
  congr 1
  exact congrArg (fun f=>(zai xs).1.k.all f) (funext fun n=>(hasN_three n).symm))
 unfold HeadTells
 obtain⟨r,hr⟩: ∃r,r=zai xs:=⟨_,rfl⟩
 rw[←hr]at HPT HSMALL HOKD⊢
 obtain⟨j,no,po⟩:=r
 obtain⟨v1,hv1⟩: ∃v:Value,v= .slice A1 n c:=⟨_,rfl⟩
 rw[←hv1]at HBK⊢
 obtain⟨R,hR⟩: ∃R,R=zdd xs:=⟨_,rfl⟩
 rw[←hR]at HOKD⊢
 clear hbk hr hl hx ha hn hR
 go_enter Tryz.func80,Tryz.ntmps80
 go_wp2_with(go_at_call 16;fail)
 refine HPT.out.mono ?_
 rintro e w1 ⟨v,ev,rfl,hrep,herr,hb⟩
 obtain⟨vk,A4,c4,rfl, -,hkk, -, -⟩:=RepJ.open (RepS.toJ _ _ hrep)
 have HKK:=Lib.hid hkk
 obtain⟨K4,d4,rfl, -, -⟩:=hkk.open
 have HRP:=Lib.hid hrep
 have HLT1:=Lib.hid (Nat.lt_of_lt_of_le hob hb.size)
 have HOB1:=Lib.hid (HBK.out.below hb hob)
 have HB1:=Lib.hid hb
 have HGA:Hid (∀g3 w2 w3 w5,w1.grownBy w2 none→w2.grownBy w3 (some g3)→w1.heap.size≤g3→w3.grownBy w5 (some ob)→w.grownBy w5 (some ob)∧RepS w5 (fun b=>w.heap.size≤b) j (.agg #[.int .i64 j.kind,.int .i64 j.n,.string j.s,.slice A4 j.l.length c4,.slice K4 j.k.length d4])):=Lib.hid (fun g3 w2 w3 w5 e2 e3 e4 e5=>by
  have k2:=RepS.keeps (Keeps.grown e2 (fun b _ e=>by cases e)) (fun b h hlt=>And.intro h hlt) _ _ hrep
  have k3:=RepS.keeps (Keeps.grown e3 (fun b hb e=>by injection e with e;have:=hb.2;omega)) (fun _ h _=>h) _ _ k2
  have k5:=RepS.keeps (Keeps.grown e5 (fun b hb e=>by injection e with e;have:=hb.1;omega)) (fun b h _=>h.1) _ _ k3
  refine⟨?_,k5⟩
  have b12:Below w.heap.size w w2:=hb.grown e2 hb.size (fun b e=>by cases e)
  have b13:Below w.heap.size w w3:=b12.grown e3 b12.size (fun b e=>by injection e with e;have:=hb.size;omega)
  exact((zaX b13 none).but _).trans e5)
 have hje:=herr.ends
 clear hrep hkk hb herr HPT HBK x1 hv1
 rcases hje with⟨rfl,rfl⟩|⟨hno,d,x,rfl⟩
 case inr=>
  have HF:Hid (R=false):=Lib.hid (by rw[HOKD.out,decide_eq_false hno];rfl)
  go_wp2_with(first
   |(refine zaV rfl (some 3) rfl _ rfl _ zeroJw ?_;intro g3 w2 hg3 hb3 hgr;have HG2:=Lib.hid hgr;have HG3:=Lib.hid hg3;clear hgr hg3;try go_frame)
   |(refine zac rfl none rfl _ (.tmp 3) (.tmp 12) rfl g3 0 [.int .i64 j.kind,.int .i64 j.n,.string j.s,.slice A4 j.l.length c4,.slice K4 j.k.length d4] rfl rfl _ _ hb3 (by simp[zeros5]) zau (by intro v hv;simp at hv;rcases hv with rfl|rfl|rfl|rfl|rfl<;>rfl) ?_;intro w3 hb4 hgr;rw[zah _ _ (by simp[zeros5])]at hb4;have HG4:=Lib.hid hgr;have hob3:=((HOB1.out.grownN HG2.out).grown hgr (fun e=>by injection e with e;have:=HG3.out;have:=HLT1.out;omega));have HBK4:=Lib.hid hb4;clear hgr hb3;try go_frame)
   |(refine zae rfl (some 15) rfl _ (.tmp 3) rfl g3 0 rfl _ _ hb4 [.int .i64 j.kind,.int .i64 j.n,.string j.s,.slice A4 j.l.length c4,.slice K4 j.k.length d4] (fun i v hv=>by rw[Nat.zero_add];exact hv) _ Tryz.underlying26 rfl zau ?_;try go_frame)
   |(refine zac rfl none rfl _ (.tmp 17) (.tmp 15) rfl ob 4 [.int .i64 j.kind,.int .i64 j.n,.string j.s,.slice A4 j.l.length c4,.slice K4 j.k.length d4] rfl rfl _ _ hob3 (by simp) zau (by intro v hv;simp at hv;rcases hv with rfl|rfl|rfl|rfl|rfl<;>rfl) ?_;intro w5 hb6 hgr;have HB6:Hid (Blk w5 ob 122 [c0,v1,c2,c3,.int .i64 j.kind,.int .i64 j.n,.string j.s,.slice A4 j.l.length c4,.slice K4 j.k.length d4,k0,k1]):=Lib.hid hb6;have HG5:=Lib.hid hgr;have hne3:some g3≠some ob:=(fun e=>by injection e with e;have:=HG3.out;have:=HLT1.out;omega);have y:=(HBK4.out.grown hgr hne3);have y0:w5.cell? ⟨g3,0,none⟩=some (.int .i64 j.kind):=y.cell 0;have y4:w5.cell? ⟨g3,4,none⟩=some (.slice K4 j.k.length d4):=y.cell 4;clear hgr hb6 hb4 hob3 y hne3;try go_frame))
  go_ret
  obtain⟨g1,g2⟩:=HGA.out _ _ _ _ HG2.out HG4.out HG3.out HG5.out
  exact⟨g1,_,_,_,_,_,by rw[HF.out];rfl,HB6.out,g2⟩
 case inl=>
  obtain⟨hsm,hks⟩:=HSMALL.out rfl
  by_cases h5:j.kind=5
  case neg=>
   have HF:Hid (R=false):=Lib.hid (by rw[HOKD.out,decide_eq_false h5];rfl)
   have b5:(j.kind==5)=false:=by rw[beq_eq_false_iff_ne];exact h5
   clear h5
   go_wp2_with(first
   |(refine zaV rfl (some 3) rfl _ rfl _ zeroJw ?_;intro g3 w2 hg3 hb3 hgr;have HG2:=Lib.hid hgr;have HG3:=Lib.hid hg3;clear hgr hg3;try go_frame)
   |(refine zac rfl none rfl _ (.tmp 3) (.tmp 12) rfl g3 0 [.int .i64 j.kind,.int .i64 j.n,.string j.s,.slice A4 j.l.length c4,.slice K4 j.k.length d4] rfl rfl _ _ hb3 (by simp[zeros5]) zau (by intro v hv;simp at hv;rcases hv with rfl|rfl|rfl|rfl|rfl<;>rfl) ?_;intro w3 hb4 hgr;rw[zah _ _ (by simp[zeros5])]at hb4;have HG4:=Lib.hid hgr;have hob3:=((HOB1.out.grownN HG2.out).grown hgr (fun e=>by injection e with e;have:=HG3.out;have:=HLT1.out;omega));have HBK4:=Lib.hid hb4;clear hgr hb3;try go_frame)
   |(refine zae rfl (some 15) rfl _ (.tmp 3) rfl g3 0 rfl _ _ hb4 [.int .i64 j.kind,.int .i64 j.n,.string j.s,.slice A4 j.l.length c4,.slice K4 j.k.length d4] (fun i v hv=>by rw[Nat.zero_add];exact hv) _ Tryz.underlying26 rfl zau ?_;try go_frame)
   |(refine zac rfl none rfl _ (.tmp 17) (.tmp 15) rfl ob 4 [.int .i64 j.kind,.int .i64 j.n,.string j.s,.slice A4 j.l.length c4,.slice K4 j.k.length d4] rfl rfl _ _ hob3 (by simp) zau (by intro v hv;simp at hv;rcases hv with rfl|rfl|rfl|rfl|rfl<;>rfl) ?_;intro w5 hb6 hgr;have HB6:Hid (Blk w5 ob 122 [c0,v1,c2,c3,.int .i64 j.kind,.int .i64 j.n,.string j.s,.slice A4 j.l.length c4,.slice K4 j.k.length d4,k0,k1]):=Lib.hid hb6;have HG5:=Lib.hid hgr;have hne3:some g3≠some ob:=(fun e=>by injection e with e;have:=HG3.out;have:=HLT1.out;omega);have y:=(HBK4.out.grown hgr hne3);have y0:w5.cell? ⟨g3,0,none⟩=some (.int .i64 j.kind):=y.cell 0;have y4:w5.cell? ⟨g3,4,none⟩=some (.slice K4 j.k.length d4):=y.cell 4;clear hgr hb6 hb4 hob3 y hne3;try go_frame))
   go_ret
   obtain⟨g1,g2⟩:=HGA.out _ _ _ _ HG2.out HG4.out HG3.out HG5.out
   exact⟨g1,_,_,_,_,_,by rw[HF.out];rfl,HB6.out,g2⟩
  case pos=>
   have b5:(j.kind==5)=true:=by rw[h5];rfl
   have HKS:=Lib.hid (hks h5)
   have HF:Hid (R=j.k.all (hasN [sAlg,sKid,sTyp])):=Lib.hid (by rw[HOKD.out,decide_eq_true h5];rfl)
   clear hks hsm HSMALL HOKD h5
   go_wp2_with(first
   |(refine zaV rfl (some 3) rfl _ rfl _ zeroJw ?_;intro g3 w2 hg3 hb3 hgr;have HG2:=Lib.hid hgr;have HG3:=Lib.hid hg3;clear hgr hg3;try go_frame)
   |(refine zac rfl none rfl _ (.tmp 3) (.tmp 12) rfl g3 0 [.int .i64 j.kind,.int .i64 j.n,.string j.s,.slice A4 j.l.length c4,.slice K4 j.k.length d4] rfl rfl _ _ hb3 (by simp[zeros5]) zau (by intro v hv;simp at hv;rcases hv with rfl|rfl|rfl|rfl|rfl<;>rfl) ?_;intro w3 hb4 hgr;rw[zah _ _ (by simp[zeros5])]at hb4;have HG4:=Lib.hid hgr;have hob3:=((HOB1.out.grownN HG2.out).grown hgr (fun e=>by injection e with e;have:=HG3.out;have:=HLT1.out;omega));have HBK4:=Lib.hid hb4;clear hgr hb3;try go_frame)
   |(refine zae rfl (some 15) rfl _ (.tmp 3) rfl g3 0 rfl _ _ hb4 [.int .i64 j.kind,.int .i64 j.n,.string j.s,.slice A4 j.l.length c4,.slice K4 j.k.length d4] (fun i v hv=>by rw[Nat.zero_add];exact hv) _ Tryz.underlying26 rfl zau ?_;try go_frame)
   |(refine zac rfl none rfl _ (.tmp 17) (.tmp 15) rfl ob 4 [.int .i64 j.kind,.int .i64 j.n,.string j.s,.slice A4 j.l.length c4,.slice K4 j.k.length d4] rfl rfl _ _ hob3 (by simp) zau (by intro v hv;simp at hv;rcases hv with rfl|rfl|rfl|rfl|rfl<;>rfl) ?_;intro w5 hb6 hgr;have HB6:Hid (Blk w5 ob 122 [c0,v1,c2,c3,.int .i64 j.kind,.int .i64 j.n,.string j.s,.slice A4 j.l.length c4,.slice K4 j.k.length d4,k0,k1]):=Lib.hid hb6;have HG5:=Lib.hid hgr;have hne3:some g3≠some ob:=(fun e=>by injection e with e;have:=HG3.out;have:=HLT1.out;omega);have y:=(HBK4.out.grown hgr hne3);have y0:w5.cell? ⟨g3,0,none⟩=some (.int .i64 j.kind):=y.cell 0;have y4:w5.cell? ⟨g3,4,none⟩=some (.slice K4 j.k.length d4):=y.cell 4;clear hgr hb6 hb4 hob3 y hne3;try go_frame)
   |(go_at_call 134;fail))
   obtain⟨g1,g2⟩:=HGA.out _ _ _ _ HG2.out HG4.out HG3.out HG5.out
   obtain⟨vk,A9,c9,e9, -,hk9, -, -⟩:=RepJ.open (RepS.toJ _ _ g2)
   have e9:=congrArg (fun v=>match v with| .agg cs=>cs.getD 4 .nilIface|_=> .nilIface) e9
   replace e9:Value.slice K4 j.k.length d4=vk:=e9
   subst e9
   obtain⟨A8,c8,e8,hkl,hkc⟩:=hk9
   injection e8 with e8 _ e8'
   subst e8;subst e8'
   have hbn:=zad w5 (.cells #[.string ⟨#[97,108,103]⟩,.string ⟨#[107,105,100]⟩,.string ⟨#[116,121,112]⟩] 9)
   have hln:LiesN w5 K4 j.k:=fun hne=>by
    obtain⟨b,o,e,hlt,hcs⟩:=hkc hne
    refine⟨b,o,e,hlt,fun i x hi=> ?_⟩
    obtain⟨t,h1,_,h2⟩:=hcs i (List.getElem?_eq_some_iff.1 hi).1
    rw[hi]at h1
    injection h1 with h1
    rw[h1];exact h2
   have hsl:SliceN (w5.alloc (.cells #[.string ⟨#[97,108,103]⟩,.string ⟨#[107,105,100]⟩,.string ⟨#[116,121,112]⟩] 9)) (.slice (some ⟨w5.heap.size,0,none⟩) 3 3) [sAlg,sKid,sTyp]:=by
    refine⟨_,3,rfl,by decide,fun _=>⟨_,0,rfl,by simp,fun i x hi=> ?_⟩,fun x hx=> ?_⟩
    ·rw[Nat.zero_add,World.cell?_alloc_new]
     match i,hi with
     |0,hi=>injection hi with hi;subst hi;rfl
     |1,hi=>injection hi with hi;subst hi;rfl
     |2,hi=>injection hi with hi;subst hi;rfl
    ·simp at hx;rcases hx with rfl|rfl|rfl<;>decide
   have HWI:=Lib.hid (within_lies K4 d4 _ j.k [sAlg,sKid,sTyp] _ (hln.below hbn) HKS.out.2 hsl (by have:=HKS.out.1;omega) (by decide))
   rw[←HF.out]at HWI
   have HGW:=Lib.hid (And.intro g1 g2)
   have HBN:=Lib.hid hbn
   clear g1 g2 hkl hkc hbn hln hsl HF
   refine HWI.out.mono ?_
   rintro e w6 ⟨rfl,hb⟩
   have HBW:=Lib.hid (HBN.out.trans (hb.mono HBN.out.size))
   clear hb HWI
   go_wp2
   go_ret
   exact⟨HGW.out.1.trans ((zaX HBW.out none).but _),_,_,_,_,_,rfl,HB6.out.below HBW.out HB6.out.lt,RepS.keeps (Keeps.grown (zaX HBW.out none) (fun b _ e=>by cases e)) (fun _ h _=>h) _ _ HGW.out.2⟩
def initO:List Value:=[.string ⟨#[]⟩,.slice none 0 0,.slice none 0 0,.slice none 0 0,.int .i64 0,.int .i64 0,.string ⟨#[]⟩,.slice none 0 0,.slice none 0 0,.string ⟨#[]⟩,.string ⟨#[]⟩]
def PartsV (ob:Nat) (text body:ByteArray) (a b c:List Int) (v1 v2 v3:Value) (W:World):Prop:=strL body=a++46::b∧PtAt W ob v1 (decL a)∧PtAt W ob v2 (decL b)∧PtAt W ob v3 (decL c)
def VLate (ks:List KeyM) (kind text:ByteArray) (ob:Nat) (a b c:List Int) (i:Nat) (W:World):Prop:=
 ∃body v1 v2 v3 h0 h1 h2 h3 h4 k0 k1,PartsV ob text body a b c v1 v2 v3 W∧Blk W ob 122 [.string body,v1,v2,v3,h0,h1,h2,h3,h4,k0,k1]∧RepS W (fun x=>x≠ob) (zai (decL a)).1 (.agg #[h0,h1,h2,h3,h4])∧zdd (decL a)=true∧
  (5<i→sayB (zai (decL a)).1 sAlg sHS=true)∧(6<i→sayB (zai (decL a)).1 sTyp kind=true)∧
  (7<i→ ∃k,ks.find? (fun k=>sayB (zai (decL a)).1 sKid k.1)=some k∧k0= .string k.1∧k1= .string k.2∧(8<i→macL (strL k.2) (a++46::b)=decL c))
def VF (ks:List KeyM) (kind text:ByteArray) (ob:Nat):Nat→World→Prop
 |0,W=>okN ks kind text 0∧Blk W ob 122 initO
 |1,W=>okN ks kind text 1∧Blk W ob 122 initO
 |2,W=>okN ks kind text 2∧Blk W ob 122 initO
 |3,W=>okN ks kind text 3∧Blk W ob 122 initO
 |4,W=>okN ks kind text 3∧ ∃a b c body v1 v2 v3,cutL (strL text)=some (a,b,c)∧PartsV ob text body a b c v1 v2 v3 W∧Blk W ob 122 (.string body::v1::v2::v3::initO.drop 4)
 |i+5,W=>okN ks kind text 3∧ ∃a b c,cutL (strL text)=some (a,b,c)∧VLate ks kind text ob a b c (i+5) W
theorem PartsV.below {ob:Nat} {text body:ByteArray} {a b c:List Int} {v1 v2 v3:Value} {W W':World} (h:PartsV ob text body a b c v1 v2 v3 W) (hb:Below W.heap.size W W'):PartsV ob text body a b c v1 v2 v3 W':=
 ⟨h.1,h.2.1.grown (zaX hb none) (.inl rfl),h.2.2.1.grown (zaX hb none) (.inl rfl),h.2.2.2.grown (zaX hb none) (.inl rfl)⟩
theorem PartsV.grown {ob:Nat} {text body:ByteArray} {a b c:List Int} {v1 v2 v3:Value} {W W':World} (h:PartsV ob text body a b c v1 v2 v3 W) (hb:W.grownBy W' (some ob)):PartsV ob text body a b c v1 v2 v3 W':=
 ⟨h.1,h.2.1.grown hb (.inr rfl),h.2.2.1.grown hb (.inr rfl),h.2.2.2.grown hb (.inr rfl)⟩
theorem VLate.below {ks:List KeyM} {kind text:ByteArray} {ob:Nat} {a b c:List Int} {i:Nat} {W W':World} (h:VLate ks kind text ob a b c i W) (hb:Below W.heap.size W W'):VLate ks kind text ob a b c i W':=by
 obtain⟨body,v1,v2,v3,h0,h1,h2,h3,h4,k0,k1,g1,g2,g3,g4,g5,g6,g7⟩:=h
 exact⟨body,v1,v2,v3,h0,h1,h2,h3,h4,k0,k1,g1.below hb,g2.below hb g2.lt,RepS.keeps (Keeps.grown (zaX hb none) (fun b _ e=>by cases e)) (fun _ h _=>h) _ _ g3,g4,g5,g6,g7⟩
theorem VF.below {ks:List KeyM} {kind text:ByteArray} {ob:Nat}: ∀{i:Nat} {W W':World},VF ks kind text ob i W→Below W.heap.size W W'→VF ks kind text ob i W'
 |0,_,_,h,hb=>⟨h.1,h.2.below hb h.2.lt⟩
 |1,_,_,h,hb=>⟨h.1,h.2.below hb h.2.lt⟩
 |2,_,_,h,hb=>⟨h.1,h.2.below hb h.2.lt⟩
 |3,_,_,h,hb=>⟨h.1,h.2.below hb h.2.lt⟩
 |4,_,_,h,hb=>by
  obtain⟨h0,a,b,c,body,v1,v2,v3,h1,h2,h3⟩:=h
  exact⟨h0,a,b,c,body,v1,v2,v3,h1,h2.below hb,h3.below hb h3.lt⟩
 |i+5,_,_,h,hb=>by
  obtain⟨h0,a,b,c,h1,h2⟩:=h
  exact⟨h0,a,b,c,h1,h2.below hb⟩
theorem zcr {ks:List KeyM} {kind text:ByteArray} (h:okN ks kind text 3):verM ks kind text=match cutL (strL text)with
 |none=>([],[],80)
 |some (a,b,c)=>verP ks kind a b c:=by
 obtain⟨h1,h2,h3⟩:=h
 have:=h3 (by decide)
 unfold verM
 rw[if_neg (by rw[h1 (by decide)];decide),if_neg (by rw[h2 (by decide)];decide),if_neg (by omega)]
 cases cutL (strL text)with
 |none=>rfl
 |some p=>obtain⟨a,b,c⟩:=p;rfl
theorem ask_v (w4:World) (ob b:Nat) (no:Int) (found:ByteArray) (q:Nat) (first caps:Array Value) (r:Bool) (VI VJ:World→Prop) (E:Value→World→Prop) (hno:no≠0) (hent: ∀args w,(callFunc q args).run Tryz.prog w= .ok (.enter q args) w)
  (hU:UnlAt w4 b no found q first caps) (hb:ob<b) (hV: ∀W W',VJ W→Below W.heap.size W W'→VJ W')
  (hq: ∀W,w4.grownBy W (some ob)→VI W→Calls Tryz.prog q (first++caps) W fun e w'=>e= .returned (.bool r)∧W.grownBy w' (some ob)∧(r=true→VJ w'))
  (hE:r=false→ ∀W b',w4.grownBy W (some ob)→W.cell? ⟨b',0,none⟩=some (.iface 81 (.int .i64 no))→E (.iface 170 (.pointer (some ⟨b',0,none⟩))) W):
  ErrAsk 131 #[.pointer (some ⟨b+2,0,none⟩),.pointer (some ⟨b,0,none⟩),.pointer (some ⟨b+1,0,none⟩)] (fun W=>w4.grownBy W (some ob)∧VI W) (fun W=>w4.grownBy W (some ob)∧VJ W) E:=by
 have hu: ∀W,w4.grownBy W (some ob)→UnlAt W b no found q first caps:=fun W hg=>hU.grown hg (fun e=>by injection e with e;omega) (fun e=>by injection e with e;omega) (fun e=>by injection e with e;omega)
 refine ErrAsk.unl b no found q first caps r _ _ E (fun W=>w4.grownBy W (some ob)∧(r=true→VJ W)) hno hent (fun W h=>hu W h.1) (fun W h=>hu W h.1) (fun W W' h hb=>⟨h.1.trans ((zaX hb none).but _),fun hr=>hV W W' (h.2 hr) hb⟩) ?_ (fun hr W h=>⟨h.1,h.2 hr⟩) (fun hr W b' h hc=>hE hr W b' h.1 hc)
 rintro W ⟨hg,hv⟩
 refine(hq W hg hv).mono ?_
 rintro e w' ⟨rfl,h1,h2⟩
 exact⟨rfl,hg.trans h1,h2⟩
def wV3:ByteArray:=⟨#[110,111,116,32,116,104,114,101,101,32,112,97,114,116,115,32,111,102,32,98,97,115,101,54,52,117,114,108]⟩
def wV4:ByteArray:=⟨#[97,32,104,101,97,100,101,114,32,111,102,32,97,110,111,116,104,101,114,32,102,111,114,109]⟩
def wV5:ByteArray:=⟨#[97,110,111,116,104,101,114,32,97,108,103,111,114,105,116,104,109]⟩
def wV6:ByteArray:=⟨#[97,110,111,116,104,101,114,32,107,105,110,100]⟩
def wV7:ByteArray:=⟨#[110,111,32,107,101,121,32,111,102,32,116,104,97,116,32,110,97,109,101]⟩
def wV8:ByteArray:=⟨#[97,110,111,116,104,101,114,32,116,97,103]⟩
theorem entV1: ∀args w,(callFunc 78 args).run Tryz.prog w= .ok (.enter 78 args) w:=enters_of Tryz.func78 (by kernel_rfl) rfl
theorem entV2: ∀args w,(callFunc 81 args).run Tryz.prog w= .ok (.enter 81 args) w:=enters_of Tryz.func81 (by kernel_rfl) rfl
theorem entV3: ∀args w,(callFunc 83 args).run Tryz.prog w= .ok (.enter 83 args) w:=enters_of Tryz.func83 (by kernel_rfl) rfl
theorem entV4: ∀args w,(callFunc 84 args).run Tryz.prog w= .ok (.enter 84 args) w:=enters_of Tryz.func84 (by kernel_rfl) rfl
theorem entRH: ∀args w,(callFunc 80 args).run Tryz.prog w= .ok (.enter 80 args) w:=enters_of Tryz.func80 (by kernel_rfl) rfl
theorem entIT: ∀args w,(callFunc 86 args).run Tryz.prog w= .ok (.enter 86 args) w:=enters_of Tryz.func86 (by kernel_rfl) rfl
theorem cutQ_any (text:ByteArray) (p ob:Nat) (w:World) (hp:w.cell? ⟨p,0,none⟩=some (.string text)) (hbk:Blk w ob 122 initO) (hM:MaxLW w) (hs:text.size≤4096):
  Calls Tryz.prog 78 #[.pointer (some ⟨ob,0,none⟩),.pointer (some ⟨p,0,none⟩)] w (CutTells w ob text (initO.drop 4)):=by
 have HC:=Lib.hid (cut_any text ob _ _ _ _ _ w hbk (by intro v hv x;simp[initO]at hv;rcases hv with rfl|rfl|rfl|rfl|rfl|rfl|rfl|rfl|rfl|rfl|rfl<;>simp) hM hs)
 clear hbk hM
 go_enter Tryz.func78,Tryz.ntmps78
 go_wp2_with fail
 refine HC.out.mono ?_
 rintro e w1 ⟨hg,h⟩
 have HG:=Lib.hid hg
 have HH:=Lib.hid h
 clear hg h
 rcases HH.out with⟨h1,rfl⟩|⟨a,b,c,body,v1,v2,v3,h1,rfl,h2,h3,h4,h5,h6⟩
 ·have H1:=Lib.hid h1
  clear h1 HH
  go_wp2
  go_ret
  exact⟨HG.out,.inl ⟨H1.out,rfl⟩⟩
 ·have H1:=Lib.hid (And.intro h1 (And.intro h2 (And.intro h3 (And.intro h4 (And.intro h5 h6)))))
  clear h1 h2 h3 h4 h5 h6 HH
  go_wp2
  go_ret
  exact⟨HG.out,.inr ⟨a,b,c,body,v1,v2,v3,H1.out.1,rfl,H1.out.2⟩⟩
theorem algQ_any (j:J) (ob:Nat) (c0 c1 c2 c3 h0 h1 h2 h3 h4:Value) (rest:List Value) (w:World) (hbk:Blk w ob 122 (c0::c1::c2::c3::h0::h1::h2::h3::h4::rest)) (hj:RepJ w j (.agg #[h0,h1,h2,h3,h4])) (hsm: ∀x∈j.l,Sm x):
  Calls Tryz.prog 81 #[.pointer (some ⟨ob,0,none⟩)] w fun e w'=>e= .returned (.bool (sayB j sAlg sHS))∧Below w.heap.size w w':=by
 have HC:=Lib.hid (zmp j ob c0 c1 c2 c3 h0 h1 h2 h3 h4 rest sAlg sHS w hbk hj hsm (by decide))
 obtain⟨r,hr⟩: ∃r,r=sayB j sAlg sHS:=⟨_,rfl⟩
 rw[←hr]at HC⊢
 clear hbk hj hsm hr
 go_enter Tryz.func81,Tryz.ntmps81
 go_wp2_with fail
 refine HC.out.mono ?_
 rintro e w1 ⟨rfl,hb⟩
 have HB:=Lib.hid hb
 clear hb
 go_wp2
 go_ret
 exact⟨rfl,HB.out⟩
theorem typQ_any (j:J) (ob p:Nat) (kind:ByteArray) (c0 c1 c2 c3 h0 h1 h2 h3 h4:Value) (rest:List Value) (w:World) (hp:w.cell? ⟨p,0,none⟩=some (.string kind)) (hbk:Blk w ob 122 (c0::c1::c2::c3::h0::h1::h2::h3::h4::rest)) (hj:RepJ w j (.agg #[h0,h1,h2,h3,h4])) (hsm: ∀x∈j.l,Sm x) (hk:kind.size≤9223372036854775807):
  Calls Tryz.prog 83 #[.pointer (some ⟨ob,0,none⟩),.pointer (some ⟨p,0,none⟩)] w fun e w'=>e= .returned (.bool (sayB j sTyp kind))∧Below w.heap.size w w':=by
 have HC:=Lib.hid (zmp j ob c0 c1 c2 c3 h0 h1 h2 h3 h4 rest sTyp kind w hbk hj hsm hk)
 obtain⟨r,hr⟩: ∃r,r=sayB j sTyp kind:=⟨_,rfl⟩
 rw[←hr]at HC⊢
 clear hbk hj hsm hr
 go_enter Tryz.func83,Tryz.ntmps83
 go_wp2_with fail
 refine HC.out.mono ?_
 rintro e w1 ⟨rfl,hb⟩
 have HB:=Lib.hid hb
 clear hb
 go_wp2
 go_ret
 exact⟨rfl,HB.out⟩
theorem findQ_any (j:J) (ks:List KeyM) (A:Option Addr) (n c p:Nat) (ob:Nat) (c0 c1 c2 c3 h0 h1 h2 h3 h4 k0 k1:Value) (w:World) (hp:w.cell? ⟨p,0,none⟩=some (.slice A n c)) (hbk:Blk w ob 122 [c0,c1,c2,c3,h0,h1,h2,h3,h4,k0,k1]) (hj:RepS w (fun b=>b≠ob) j (.agg #[h0,h1,h2,h3,h4])) (hsm: ∀x∈j.l,Sm x)
  (hn:ks.length=n) (hn9:n≤1000000) (hk:KeyOk ks) (hr:RingAt w A ks):
  Calls Tryz.prog 84 #[.pointer (some ⟨ob,0,none⟩),.pointer (some ⟨p,0,none⟩)] w (FindTells w ob [c0,c1,c2,c3,h0,h1,h2,h3,h4] (ks.find? fun k=>sayB j sKid k.1)):=by
 have HC:=Lib.hid (findKey_any j ks A n c ob c0 c1 c2 c3 h0 h1 h2 h3 h4 k0 k1 w hbk hj hsm hn hn9 hk hr)
 obtain⟨r,hrr⟩: ∃r,r=(ks.find? fun k=>sayB j sKid k.1):=⟨_,rfl⟩
 rw[←hrr]at HC⊢
 clear hbk hj hsm hrr hn hk hr
 go_enter Tryz.func84,Tryz.ntmps84
 go_wp2_with fail
 refine HC.out.mono ?_
 rintro e w1 ⟨hg,h⟩
 have HG:=Lib.hid hg
 have HH:=Lib.hid h
 clear hg h
 rcases HH.out with⟨h1,rfl⟩|⟨k,h1,rfl,h2⟩
 ·have H1:=Lib.hid h1
  clear h1 HH
  go_wp2
  go_ret
  exact⟨HG.out,.inl ⟨H1.out,rfl⟩⟩
 ·have H1:=Lib.hid (And.intro h1 h2)
  clear h1 h2 HH
  go_wp2
  go_ret
  exact⟨HG.out,.inr ⟨k,H1.out.1,rfl,H1.out.2⟩⟩
theorem ErrAsk.void {g:Nat} {caps:Array Value} {I J:World→Prop} {E:Value→World→Prop} (hent: ∀args w,(callFunc g args).run Tryz.prog w= .ok (.enter g args) w) (h: ∀W,¬I W):ErrAsk g caps I J E:=⟨hent,fun W hW=>absurd hW (h W)⟩
theorem zgV {l:List Int} (h:zdd l=true):(zai l).2.1=0∧ ∀x∈(zai l).1.l,Sm x:=by
 unfold zdd at h
 rw[Bool.and_eq_true,Bool.and_eq_true,decide_eq_true_eq]at h
 refine⟨h.1.1,fun x hx=> ?_⟩
 have hs:=(zhx h.1.1).1
 cases hp:(zai l).1 with
 |mk kind n s ls k=>
  rw[hp]at hs hx
  cases hs with
  |mk a1 a2 a3=>exact a3 x hx
theorem zmV {l a b c:List Int} (h:cutL l=some (a,b,c)):zdJ l=[a,b,c]∧zaz a= -1∧zaz b= -1∧zaz c= -1:=by
 unfold cutL at h
 split at h
 ·rename_i x y z e
  split at h
  ·rename_i hf
   injection h with h
   injection h with h1 h2
   injection h2 with h2 h3
   subst h1;subst h2;subst h3
   exact⟨e,hf⟩
  ·cases h
 ·cases h
theorem zkb {l a b c p:List Int} (h:cutL l=some (a,b,c)) (hp:p∈[a,b,c]) (hl:l.length≤4096):Bytes (decL p)∧(decL p).length≤4096:=by
 obtain⟨h1,h2,h3,h4⟩:=zmV h
 have hd:=(zen l p (by rw[h1];exact hp)).2.2
 refine⟨?_,by rw[zdt];omega⟩
 simp at hp
 rcases hp with rfl|rfl|rfl
 ·exact zfx (Good.of_fault h2)
 ·exact zfx (Good.of_fault h3)
 ·exact zfx (Good.of_fault h4)
structure VLay (w4:World) (ob z:Nat) (A:Option Addr) (n c:Nat) (kind text:ByteArray):Prop where
 hz:ob<z
 pr: ∃p,p<ob∧w4.cell? ⟨p,0,none⟩=some (.slice A n c)∧UnlAt w4 (z+21) 83 wV7 84 #[] #[.pointer (some ⟨ob,0,none⟩),.pointer (some ⟨p,0,none⟩)]
 pk: ∃p,p<ob∧w4.cell? ⟨p,0,none⟩=some (.string kind)∧UnlAt w4 (z+18) 81 wV6 83 #[] #[.pointer (some ⟨ob,0,none⟩),.pointer (some ⟨p,0,none⟩)]
 pt: ∃p,p<ob∧w4.cell? ⟨p,0,none⟩=some (.string text)∧UnlAt w4 (z+9) 80 wV3 78 #[] #[.pointer (some ⟨ob,0,none⟩),.pointer (some ⟨p,0,none⟩)]
 u4:UnlAt w4 (z+12) 81 wV4 80 #[.pointer (some ⟨ob,0,none⟩)] #[]
 u5:UnlAt w4 (z+15) 82 wV5 81 #[] #[.pointer (some ⟨ob,0,none⟩)]
 u8:UnlAt w4 (z+24) 84 wV8 86 #[.pointer (some ⟨ob,0,none⟩)] #[]
def VE (ks:List KeyM) (kind text:ByteArray) (w4:World) (ob:Nat) (v:Value) (W:World):Prop:= ∃m,m≠0∧verM ks kind text=([],[],m)∧WErr m v W∧w4.grownBy W (some ob)
def VI (ks:List KeyM) (kind text:ByteArray) (w4:World) (ob:Nat) (i:Nat) (W:World):Prop:=w4.grownBy W (some ob)∧VF ks kind text ob i W
abbrev unlC (b:Nat):Array Value:= #[.pointer (some ⟨b+2,0,none⟩),.pointer (some ⟨b,0,none⟩),.pointer (some ⟨b+1,0,none⟩)]
section
variable {ks:List KeyM} {kind text:ByteArray} {w4:World} {ob z:Nat} {A:Option Addr} {n c:Nat}
theorem ask_3 (h:VLay w4 ob z A n c kind text) (hM: ∀W,w4.grownBy W (some ob)→Ask8 W):ErrAsk 131 (unlC (z+9)) (VI ks kind text w4 ob 3) (VI ks kind text w4 ob 4) (VE ks kind text w4 ob):=by
 obtain⟨p,hp,hc,hu⟩:=h.pt
 by_cases hok:okN ks kind text 3
 case neg=>exact ErrAsk.void (enters_of Tryz.func131 (by kernel_rfl) rfl) fun W hW=>hok hW.2.1
 refine ask_v w4 ob (z+9) 80 wV3 _ #[] _ (cutL (strL text)).isSome _ _ _ (by decide) entV1 hu (by have:=h.hz;omega) (fun W W' hv hb=>VF.below hv hb) ?_ ?_
 ·rintro W hg ⟨_,hblk⟩
  refine(cutQ_any text p ob W (hg.cell hc (fun e=>by injection e with e;exact absurd e (by show ¬p=ob;omega))) hblk (hM W hg).maxl (hok.2.2 (by decide))).mono ?_
  rintro e w' ⟨h1,h2|⟨a,b,c',body,v1,v2,v3,g1,g2,g3,g4,g5,g6,g7⟩⟩
  ·exact⟨by rw[h2.1];exact h2.2,h1,fun hx=>by rw[h2.1]at hx;cases hx⟩
  ·exact⟨by rw[g1];exact g2,h1,fun _=>⟨hok,a,b,c',body,v1,v2,v3,g1,⟨g3,g5,g6,g7⟩,g4⟩⟩
 ·intro hr W b' hg hcell
  refine⟨80,by decide,?_,zby (by decide) hcell,hg⟩
  rw[zcr hok]
  cases hq:cutL (strL text)with
  |none=>rfl
  |some p=>rw[hq]at hr;cases hr
theorem ask_4 {a b c':List Int} (h:VLay w4 ob z A n c kind text) (hcut:cutL (strL text)=some (a,b,c')) (hok:okN ks kind text 3) (hM: ∀W,w4.grownBy W (some ob)→Ask8 W):ErrAsk 131 (unlC (z+12)) (VI ks kind text w4 ob 4) (VI ks kind text w4 ob 5) (VE ks kind text w4 ob):=by
 obtain⟨d1,d2⟩:=zkb (p:=a) hcut (by simp) (by rw[zaQ];exact hok.2.2 (by decide))
 refine ask_v w4 ob (z+12) 81 wV4 _ #[.pointer (some ⟨ob,0,none⟩)] #[] (zdd (decL a)) _ _ _ (by decide) entRH h.u4 (by have:=h.hz;omega) (fun W W' hv hb=>VF.below hv hb) ?_ ?_
 ·rintro W hg ⟨_,a1,b1,c1,body,v1,v2,v3,e,hp,hblk⟩
  rw[hcut]at e
  injection e with e
  injection e with e1 e2
  injection e2 with e2 e3
  subst e1;subst e2;subst e3
  obtain⟨A1,k1,rfl,hcap,hsrc⟩:=hp.2.1
  refine(zkq ob (decL a) (.string body) v2 v3 _ _ _ _ _ _ _ A1 (decL a).length k1 W hblk rfl (by omega) d1 (Lies.of hsrc) (hM W hg).ask).mono ?_
  rintro e w' ⟨h1,h0,q1,q2,q3,q4,g1,g2,g3⟩
  refine⟨g1,h1,fun hr=>⟨hok,a,b,c',hcut,body,_,v2,v3,h0,q1,q2,q3,q4,_,_,hp.grown h1,g2,?_,hr,fun h=>absurd h (by decide),fun h=>absurd h (by decide),fun h=>absurd h (by decide)⟩⟩
  exact RepS.keeps (Keeps.refl _ w') (fun x hx _=>by have:=hblk.lt;show x≠ob;omega) _ _ g3
 ·intro hr W b' hg hcell
  refine⟨81,by decide,?_,zby (by decide) hcell,hg⟩
  rw[zcr hok,hcut]
  show verP ks kind a b c'=_
  unfold verP
  rw[if_pos hr]
theorem vlate {a b c':List Int} {i:Nat} {W:World} (hcut:cutL (strL text)=some (a,b,c')) (h:VF ks kind text ob (i+5) W):VLate ks kind text ob a b c' (i+5) W:=by
 obtain⟨_,a1,b1,c1,e,hv⟩:=h
 rw[hcut]at e
 injection e with e
 injection e with e1 e2
 injection e2 with e2 e3
 subst e1;subst e2;subst e3
 exact hv
theorem ask_5 {a b c':List Int} (h:VLay w4 ob z A n c kind text) (hcut:cutL (strL text)=some (a,b,c')) (hok:okN ks kind text 3):ErrAsk 131 (unlC (z+15)) (VI ks kind text w4 ob 5) (VI ks kind text w4 ob 6) (VE ks kind text w4 ob):=by
 by_cases hh:zdd (decL a)=true
 case neg=>
  refine ErrAsk.void (enters_of Tryz.func131 (by kernel_rfl) rfl) fun W hW=> ?_
  obtain⟨_,_,_,_,_,_,_,_,_,_,_,_,_,_,g,_⟩:=vlate (i:=0) hcut hW.2
  exact hh g
 obtain⟨s1,s2⟩:=zgV hh
 refine ask_v w4 ob (z+15) 82 wV5 _ #[] _ (sayB (zai (decL a)).1 sAlg sHS) _ _ _ (by decide) entV2 h.u5 (by have:=h.hz;omega) (fun W W' hv hb=>VF.below hv hb) ?_ ?_
 ·rintro W hg hv
  obtain⟨body,v1,v2,v3,h0,h1,h2,h3,h4,k0,k1,g1,g2,g3,g4,g5,g6,g7⟩:=vlate (i:=0) hcut hv
  refine(algQ_any _ ob _ _ _ _ h0 h1 h2 h3 h4 [k0,k1] W g2 (RepS.toJ _ _ g3) s2).mono ?_
  rintro e w' ⟨rfl,hb⟩
  refine⟨rfl,(zaX hb none).but _,fun hr=>⟨hok,a,b,c',hcut,VLate.below (i:=6) ⟨body,v1,v2,v3,h0,h1,h2,h3,h4,k0,k1,g1,g2,g3,g4,fun _=>hr,fun h=>absurd h (by decide),fun h=>absurd h (by decide)⟩ hb⟩⟩
 ·intro hr W b' hg hcell
  refine⟨82,by decide,?_,zby (by decide) hcell,hg⟩
  rw[zcr hok,hcut]
  show verP ks kind a b c'=_
  unfold verP
  rw[if_neg (by rw[hh];decide),if_pos hr]
theorem ask_6 {a b c':List Int} (h:VLay w4 ob z A n c kind text) (hcut:cutL (strL text)=some (a,b,c')) (hok:okN ks kind text 3):ErrAsk 131 (unlC (z+18)) (VI ks kind text w4 ob 6) (VI ks kind text w4 ob 7) (VE ks kind text w4 ob):=by
 obtain⟨p,hp,hc,hu⟩:=h.pk
 by_cases hh:zdd (decL a)=true∧sayB (zai (decL a)).1 sAlg sHS=true
 case neg=>
  refine ErrAsk.void (enters_of Tryz.func131 (by kernel_rfl) rfl) fun W hW=> ?_
  obtain⟨_,_,_,_,_,_,_,_,_,_,_,_,_,_,g4,g5,_⟩:=vlate (i:=1) hcut hW.2
  exact hh ⟨g4,g5 (by decide)⟩
 obtain⟨s1,s2⟩:=zgV hh.1
 refine ask_v w4 ob (z+18) 81 wV6 _ #[] _ (sayB (zai (decL a)).1 sTyp kind) _ _ _ (by decide) entV3 hu (by have:=h.hz;omega) (fun W W' hv hb=>VF.below hv hb) ?_ ?_
 ·rintro W hg hv
  obtain⟨body,v1,v2,v3,h0,h1,h2,h3,h4,k0,k1,g1,g2,g3,g4,g5,g6,g7⟩:=vlate (i:=1) hcut hv
  refine(typQ_any _ ob p kind _ _ _ _ h0 h1 h2 h3 h4 [k0,k1] W (hg.cell hc (fun e=>by injection e with e;exact absurd e (by show ¬p=ob;omega))) g2 (RepS.toJ _ _ g3) s2 (by have:=zcZ (hok.2.1 (by decide));omega)).mono ?_
  rintro e w' ⟨rfl,hb⟩
  refine⟨rfl,(zaX hb none).but _,fun hr=>⟨hok,a,b,c',hcut,VLate.below (i:=7) ⟨body,v1,v2,v3,h0,h1,h2,h3,h4,k0,k1,g1,g2,g3,g4,fun _=>hh.2,fun _=>hr,fun h=>absurd h (by decide)⟩ hb⟩⟩
 ·intro hr W b' hg hcell
  refine⟨81,by decide,?_,zby (by decide) hcell,hg⟩
  rw[zcr hok,hcut]
  show verP ks kind a b c'=_
  unfold verP
  rw[if_neg (by rw[hh.1];decide),if_neg (by rw[hh.2];decide),if_pos hr]
theorem ask_7 {a b c':List Int} (h:VLay w4 ob z A n c kind text) (hcut:cutL (strL text)=some (a,b,c')) (hok:okN ks kind text 3) (hn:ks.length=n) (hk:KeyOk ks) (hR: ∀W,w4.grownBy W (some ob)→RingAt W A ks):ErrAsk 131 (unlC (z+21)) (VI ks kind text w4 ob 7) (VI ks kind text w4 ob 8) (VE ks kind text w4 ob):=by
 obtain⟨p,hp,hc,hu⟩:=h.pr
 by_cases hh:zdd (decL a)=true∧sayB (zai (decL a)).1 sAlg sHS=true∧sayB (zai (decL a)).1 sTyp kind=true
 case neg=>
  refine ErrAsk.void (enters_of Tryz.func131 (by kernel_rfl) rfl) fun W hW=> ?_
  obtain⟨_,_,_,_,_,_,_,_,_,_,_,_,_,_,g4,g5,g6,_⟩:=vlate (i:=2) hcut hW.2
  exact hh ⟨g4,g5 (by decide),g6 (by decide)⟩
 obtain⟨s1,s2⟩:=zgV hh.1
 have hl4:=(zeg (hok.1 (by decide))).2.1
 refine ask_v w4 ob (z+21) 83 wV7 _ #[] _ (ks.find? fun k=>sayB (zai (decL a)).1 sKid k.1).isSome _ _ _ (by decide) entV4 hu (by have:=h.hz;omega) (fun W W' hv hb=>VF.below hv hb) ?_ ?_
 ·rintro W hg hv
  obtain⟨body,v1,v2,v3,h0,h1,h2,h3,h4,k0,k1,g1,g2,g3,g4,g5,g6,g7⟩:=vlate (i:=2) hcut hv
  refine(findQ_any _ ks A n c p ob _ _ _ _ h0 h1 h2 h3 h4 k0 k1 W (hg.cell hc (fun e=>by injection e with e;exact absurd e (by show ¬p=ob;omega))) g2 g3 s2 hn (by omega) hk (hR W hg)).mono ?_
  rintro e w' ⟨q1,⟨q2,rfl⟩|⟨k,q2,rfl,q3⟩⟩
  ·exact⟨by rw[q2];rfl,q1,fun hr=>by rw[q2]at hr;cases hr⟩
  ·refine⟨by rw[q2];rfl,q1,fun hr=>⟨hok,a,b,c',hcut,body,v1,v2,v3,h0,h1,h2,h3,h4,.string k.1,.string k.2,g1.grown q1,q3,?_,g4,g5|>fun _ _=>hh.2.1,fun _=>hh.2.2,fun _=>⟨k,q2,rfl,rfl,fun h=>absurd h (by decide)⟩⟩⟩
   exact RepS.keeps (Keeps.grown q1 (fun x hx e=>hx (by injection e))) (fun _ h _=>h) _ _ g3
 ·intro hr W b' hg hcell
  refine⟨83,by decide,?_,zby (by decide) hcell,hg⟩
  rw[zcr hok,hcut]
  show verP ks kind a b c'=_
  unfold verP
  rw[if_neg (by rw[hh.1];decide),if_neg (by rw[hh.2.1];decide),if_neg (by rw[hh.2.2];decide)]
  cases hq:ks.find? (fun k=>sayB (zai (decL a)).1 sKid k.1)with
  |none=>rfl
  |some p=>rw[hq]at hr;cases hr
theorem ask_8 {a b c':List Int} (h:VLay w4 ob z A n c kind text) (hcut:cutL (strL text)=some (a,b,c')) (hok:okN ks kind text 3) (hM: ∀W,w4.grownBy W (some ob)→Ask8 W):ErrAsk 131 (unlC (z+24)) (VI ks kind text w4 ob 8) (VI ks kind text w4 ob 9) (VE ks kind text w4 ob):=by
 by_cases hh:zdd (decL a)=true∧sayB (zai (decL a)).1 sAlg sHS=true∧sayB (zai (decL a)).1 sTyp kind=true∧ ∃k,ks.find? (fun k=>sayB (zai (decL a)).1 sKid k.1)=some k
 case neg=>
  refine ErrAsk.void (enters_of Tryz.func131 (by kernel_rfl) rfl) fun W hW=> ?_
  obtain⟨_,_,_,_,_,_,_,_,_,_,_,_,_,_,g4,g5,g6,g7⟩:=vlate (i:=3) hcut hW.2
  obtain⟨k,hk,_⟩:=g7 (by decide)
  exact hh ⟨g4,g5 (by decide),g6 (by decide),k,hk⟩
 obtain⟨hh1,hh2,hh3,k,hfind⟩:=hh
 have hkm:=List.mem_of_find?_eq_some hfind
 have hks:=(zeg (hok.1 (by decide))).2.2 k hkm
 have htx:=hok.2.2 (by decide)
 obtain⟨d1,d2⟩:=zkb (p:=c') hcut (by simp) (by rw[zaQ];exact htx)
 have hdot:=dotsL_three (zmV hcut).1
 have hlen:=congrArg List.length hdot
 simp only[List.length_append,List.length_cons,zaQ]at hlen
 refine ask_v w4 ob (z+24) 84 wV8 _ #[.pointer (some ⟨ob,0,none⟩)] #[] (decide (macL (strL k.2) (a++46::b)=decL c')) _ _ _ (by decide) entIT h.u8 (by have:=h.hz;omega) (fun W W' hv hb=>VF.below hv hb) ?_ ?_
 ·rintro W hg hv
  obtain⟨body,v1,v2,v3,h0,h1,h2,h3,h4,k0,k1,g1,g2,g3,g4,g5,g6,g7⟩:=vlate (i:=3) hcut hv
  obtain⟨k',hk',rfl,rfl,_⟩:=g7 (by decide)
  rw[hfind]at hk'
  injection hk' with hk'
  subst hk'
  obtain⟨A3,k3,e3,hcap,hsrc⟩:=g1.2.2.2
  have hbz:body.size≤1000000:=by
   have:=congrArg List.length g1.1
   simp only[List.length_append,List.length_cons,zaQ]at this
   omega
  have g2':=g2
  rw[e3]at g2'
  rw[←g1.1]
  refine(isTagged_any ob body k.1 k.2 v1 v2 h0 h1 h2 h3 h4 A3 (decL c').length k3 (decL c') W g2' rfl (by omega) d1 (Lies.of hsrc) (by omega) hbz (hM W hg).tabs).mono ?_
  rintro e w' ⟨rfl,hb⟩
  refine⟨rfl,(zaX hb none).but _,fun hr=>⟨hok,a,b,c',hcut,VLate.below (i:=9) ⟨body,v1,v2,v3,h0,h1,h2,h3,h4,_,_,g1,g2,g3,g4,g5|>fun _ _=>hh2,fun _=>hh3,fun _=>⟨k,hfind,rfl,rfl,fun _=>by rw[←g1.1];exact of_decide_eq_true hr⟩⟩ hb⟩⟩
 ·intro hr W b' hg hcell
  refine⟨84,by decide,?_,zby (by decide) hcell,hg⟩
  rw[zcr hok,hcut]
  show verP ks kind a b c'=_
  unfold verP
  rw[if_neg (by rw[hh1];decide),if_neg (by rw[hh2];decide),if_neg (by rw[hh3];decide),hfind]
  show(if macL (strL k.2) (a++46::b)=decL c' then _ else _)=_
  rw[if_neg (of_decide_eq_false hr)]
end
theorem VLay.below {w w':World} {ob z:Nat} {A:Option Addr} {n c:Nat} {kind text:ByteArray} (h:VLay w ob z A n c kind text) (hb:Below w.heap.size w w'):VLay w' ob z A n c kind text:=by
 obtain⟨h0,⟨p,h1,h2,h3⟩,⟨q,h4,h5,h6⟩,⟨r,h7,h8,h9⟩,u4,u5,u8⟩:=h
 exact⟨h0,⟨p,h1,(hb.cell (zab h2)).trans h2,h3.below hb⟩,⟨q,h4,(hb.cell (zab h5)).trans h5,h6.below hb⟩,⟨r,h7,(hb.cell (zab h8)).trans h8,h9.below hb⟩,u4.below hb,u5.below hb,u8.below hb⟩
theorem ver_first (ks:List KeyM) (A:Option Addr) (n c:Nat) (kind text:ByteArray) (ob z:Nat) (w0 wz:World) (hz:z=w0.heap.size) (h3:Three w0 wz A n c kind text) (hl:VLay wz ob z A n c kind text) (hblk:Blk wz ob 122 initO)
  (hn:ks.length=n) (hn9:n≤9223372036854775807) (hnc:n≤c) (hk:KeyOk ks) (hM: ∀W,wz.grownBy W (some ob)→Ask8 W) (hR: ∀W,wz.grownBy W (some ob)→RingAt W A ks):
  Calls Tryz.prog 69 #[.slice (some ⟨wz.heap.size,0,none⟩) 9 9] (wz.alloc (.cells #[.func (.func 121) #[] #[.pointer (some ⟨z,0,none⟩)],unlV (z+2),unlV (z+6),unlV (z+9),unlV (z+12),unlV (z+15),unlV (z+18),unlV (z+21),unlV (z+24)] 114))
   fun e w'=>wz.grownBy w' (some ob)∧((e= .returned .nilIface∧VF ks kind text ob 9 w')∨ ∃d x m,e= .returned (.iface d x)∧m≠0∧verM ks kind text=([],[],m)∧WErr m (.iface d x) w'):=by
 obtain⟨w4,hw4⟩: ∃W,W=wz.alloc (.cells #[.func (.func 121) #[] #[.pointer (some ⟨z,0,none⟩)],unlV (z+2),unlV (z+6),unlV (z+9),unlV (z+12),unlV (z+15),unlV (z+18),unlV (z+21),unlV (z+24)] 114):=⟨_,rfl⟩
 have hb4:Below wz.heap.size wz w4:=by rw[hw4];exact zad _ _
 have hg4:wz.grownBy w4 (some ob):=(zaX hb4 none).but _
 have r0:w4.cell? ⟨wz.heap.size,0,none⟩=some (.func (.func 121) #[] #[.pointer (some ⟨z,0,none⟩)]):=by rw[hw4];simp
 have r1:w4.cell? ⟨wz.heap.size,1,none⟩=some (unlV (z+2)):=by rw[hw4];simp
 have r2:w4.cell? ⟨wz.heap.size,2,none⟩=some (unlV (z+6)):=by rw[hw4];simp
 have r3:w4.cell? ⟨wz.heap.size,3,none⟩=some (unlV (z+9)):=by rw[hw4];simp
 have r4:w4.cell? ⟨wz.heap.size,4,none⟩=some (unlV (z+12)):=by rw[hw4];simp
 have r5:w4.cell? ⟨wz.heap.size,5,none⟩=some (unlV (z+15)):=by rw[hw4];simp
 have r6:w4.cell? ⟨wz.heap.size,6,none⟩=some (unlV (z+18)):=by rw[hw4];simp
 have r7:w4.cell? ⟨wz.heap.size,7,none⟩=some (unlV (z+21)):=by rw[hw4];simp
 have r8:w4.cell? ⟨wz.heap.size,8,none⟩=some (unlV (z+24)):=by rw[hw4];simp
 rw[←hw4]
 clear hw4
 subst hz
 have h4:Three w0 w4 A n c kind text:=⟨h3.bel.trans (hb4.mono h3.bel.size),(hb4.cell (zab h3.ring)).trans h3.ring,(hb4.cell (zab h3.kd)).trans h3.kd,h3.un.below hb4,(hb4.cell (zab h3.tx)).trans h3.tx,h3.us.below hb4⟩
 have l4:=hl.below hb4
 have k4:=hblk.below hb4 hblk.lt
 have hM4: ∀W,w4.grownBy W (some ob)→Ask8 W:=fun W hg=>hM W (hg4.trans hg)
 have hR4: ∀W,w4.grownBy W (some ob)→RingAt W A ks:=fun W hg=>hR W (hg4.trans hg)
 have hob:=hl.hz
 have hwz:=hblk.lt
 obtain⟨I,hI⟩: ∃I:Nat→World→Prop,I=VI ks kind text w4 ob:=⟨_,rfl⟩
 obtain⟨E,hE⟩: ∃E:Value→World→Prop,E=VE ks kind text w4 ob:=⟨_,rfl⟩
 obtain⟨a0,a1,a2⟩:=zma ks A n c kind text w0 w4 h4 hn hn9 hnc hk (some ob) hR4 (fun b h1 _ e=>by injection e with e;omega) (fun W=>Blk W ob 122 initO) (fun W W' hx _ hb=>hx.below hb hx.lt) I E
  (fun i hi=>by
   rw[hI]
   match i,hi with
   |0,_=>rfl
   |1,_=>rfl
   |2,_=>rfl
   |3,_=>rfl)
  (fun v W m h1 h0 h2 h3=>by
   rw[hE]
   refine⟨m,h0,?_,h2,h3⟩
   rw[←h1]at h0⊢
   unfold zcw at h0⊢
   unfold verM
   split
   ·rfl
   ·split
    ·rfl
    ·split
     ·rfl
     ·rename_i q1 q2 q3
      rw[if_neg q1,if_neg q2,if_neg q3]at h0
      exact absurd rfl h0)
 have a3:=ask_3 (ks:=ks) l4 hM4
 have late: ∀i f,4≤i→[(131:Nat),131,131,131,131][i-4]? =some f→i≤8→ErrAsk 131 (unlC (w0.heap.size+(9+3*(i-3)))) (VI ks kind text w4 ob i) (VI ks kind text w4 ob (i+1)) (VE ks kind text w4 ob):=fun i f hi _ h8=>by
  have hent:=enters_of (P:=Tryz.prog) Tryz.func131 (by kernel_rfl) rfl
  by_cases hok:okN ks kind text 3
  case neg=>
   refine ErrAsk.void hent fun W hW=>hok ?_
   match i,hi,h8 with
   |4,_,_=>exact hW.2.1
   |i+5,_,_=>exact hW.2.1
  cases hcut:cutL (strL text)with
  |none=>
   refine ErrAsk.void hent fun W hW=> ?_
   match i,hi,h8 with
   |4,_,_=>obtain⟨_,a,b,c,_,_,_,_,h,_⟩:=hW.2;rw[hcut]at h;cases h
   |i+5,_,_=>obtain⟨_,a,b,c,h,_⟩:=hW.2;rw[hcut]at h;cases h
  |some p=>
   obtain⟨a,b,c'⟩:=p
   match i,hi,h8 with
   |4,_,_=>exact ask_4 l4 hcut hok hM4
   |5,_,_=>exact ask_5 l4 hcut hok
   |6,_,_=>exact ask_6 l4 hcut hok
   |7,_,_=>exact ask_7 l4 hcut hok hn hk hR4
   |8,_,_=>exact ask_8 l4 hcut hok hM4
   |i+9,_,h=>omega
 rw[←hI,←hE]at a3 late
 refine(zgb wz.heap.size 9 9 [(121,#[.pointer (some ⟨w0.heap.size,0,none⟩)]),(131,unlC (w0.heap.size+2)),(131,unlC (w0.heap.size+6)),(131,unlC (w0.heap.size+9)),(131,unlC (w0.heap.size+12)),(131,unlC (w0.heap.size+15)),(131,unlC (w0.heap.size+18)),(131,unlC (w0.heap.size+21)),(131,unlC (w0.heap.size+24))] I E w4 rfl (by decide) ?_ ?_ ?_).mono ?_
 ·intro i f W hf hi
  rw[hI]at hi
  have hne:some wz.heap.size≠some ob:=fun e=>by injection e with e;omega
  match i,hf with
  |0,hf=>injection hf with hf;subst hf;exact hi.1.cell r0 hne
  |1,hf=>injection hf with hf;subst hf;exact hi.1.cell r1 hne
  |2,hf=>injection hf with hf;subst hf;exact hi.1.cell r2 hne
  |3,hf=>injection hf with hf;subst hf;exact hi.1.cell r3 hne
  |4,hf=>injection hf with hf;subst hf;exact hi.1.cell r4 hne
  |5,hf=>injection hf with hf;subst hf;exact hi.1.cell r5 hne
  |6,hf=>injection hf with hf;subst hf;exact hi.1.cell r6 hne
  |7,hf=>injection hf with hf;subst hf;exact hi.1.cell r7 hne
  |8,hf=>injection hf with hf;subst hf;exact hi.1.cell r8 hne
 ·intro i f hf
  match i,hf with
  |0,hf=>injection hf with hf;subst hf;exact a0
  |1,hf=>injection hf with hf;subst hf;exact a1
  |2,hf=>injection hf with hf;subst hf;exact a2
  |3,hf=>injection hf with hf;subst hf;exact a3
  |4,hf=>injection hf with hf;subst hf;exact late 4 _ (by decide) rfl (by decide)
  |5,hf=>injection hf with hf;subst hf;exact late 5 _ (by decide) rfl (by decide)
  |6,hf=>injection hf with hf;subst hf;exact late 6 _ (by decide) rfl (by decide)
  |7,hf=>injection hf with hf;subst hf;exact late 7 _ (by decide) rfl (by decide)
  |8,hf=>injection hf with hf;subst hf;exact late 8 _ (by decide) rfl (by decide)
 ·rw[hI];exact⟨zaY _ _,⟨fun h=>absurd h (by decide),fun h=>absurd h (by decide),fun h=>absurd h (by decide)⟩,k4⟩
 ·rintro e w' (⟨rfl,h⟩|⟨d,x,rfl,h⟩)
  ·rw[hI]at h
   exact⟨hg4.trans h.1,.inl ⟨rfl,h.2⟩⟩
  ·rw[hE]at h
   obtain⟨m,h1,h2,h3,h4⟩:=h
   exact⟨hg4.trans h4,.inr ⟨d,x,m,rfl,h1,h2,h3⟩⟩
end Go.Proofs.YtlcljphbldjieaaGreatDoor
