
import Derived.Test.YtceddodfddlncaaGreatDoorJb43
import Derived.Test.YtceddodfddlncaaGreatDoorJb47
set_option maxRecDepth 100000
set_option maxHeartbeats 16000000
set_option linter.all false
namespace Go.Proofs.YtceddodfddlncaaGreatDoor
open Go Go.RowKit
def initO:List Value:=[.string ⟨#[]⟩,.slice none 0 0,.slice none 0 0,.slice none 0 0,.int .i64 0,.int .i64 0,.string ⟨#[]⟩,.slice none 0 0,.slice none 0 0,.string ⟨#[]⟩,.string ⟨#[]⟩]
def PartsV (ob:Nat) (text body:ByteArray) (a b c:List Int) (v1 v2 v3:Value) (W:World):Prop:=strL body=a++46::b∧PtAt W ob v1 (decL a)∧PtAt W ob v2 (decL b)∧PtAt W ob v3 (decL c)
def VLate (ks:List KeyM) (kind text:ByteArray) (ob:Nat) (a b c:List Int) (i:Nat) (W:World):Prop:=
 ∃body v1 v2 v3 h0 h1 h2 h3 h4 k0 k1,PartsV ob text body a b c v1 v2 v3 W∧Blk W ob 65 [.string body,v1,v2,v3,h0,h1,h2,h3,h4,k0,k1]∧RepS W (fun x=>x≠ob) (zai (decL a)).1 (.agg #[h0,h1,h2,h3,h4])∧zdi (decL a)=true∧
  (5<i→sayB (zai (decL a)).1 sAlg sHS=true)∧(6<i→sayB (zai (decL a)).1 sTyp kind=true)∧
  (7<i→ ∃k,ks.find? (fun k=>sayB (zai (decL a)).1 sKid k.1)=some k∧k0= .string k.1∧k1= .string k.2∧(8<i→macL (strL k.2) (a++46::b)=decL c))
def VF (ks:List KeyM) (kind text:ByteArray) (ob:Nat):Nat→World→Prop
 |0,W=>okN ks kind text 0∧Blk W ob 65 initO
 |1,W=>okN ks kind text 1∧Blk W ob 65 initO
 |2,W=>okN ks kind text 2∧Blk W ob 65 initO
 |3,W=>okN ks kind text 3∧Blk W ob 65 initO
 |4,W=>okN ks kind text 3∧ ∃a b c body v1 v2 v3,cutL (strL text)=some (a,b,c)∧PartsV ob text body a b c v1 v2 v3 W∧Blk W ob 65 (.string body::v1::v2::v3::initO.drop 4)
 |i+5,W=>okN ks kind text 3∧ ∃a b c,cutL (strL text)=some (a,b,c)∧VLate ks kind text ob a b c (i+5) W
theorem PartsV.below {ob:Nat} {text body:ByteArray} {a b c:List Int} {v1 v2 v3:Value} {W W':World} (h:PartsV ob text body a b c v1 v2 v3 W) (hb:Below W.heap.size W W'):PartsV ob text body a b c v1 v2 v3 W':=
 ⟨h.1,h.2.1.grown (zaX hb none) (.inl rfl),h.2.2.1.grown (zaX hb none) (.inl rfl),h.2.2.2.grown (zaX hb none) (.inl rfl)⟩
theorem PartsV.grown {ob:Nat} {text body:ByteArray} {a b c:List Int} {v1 v2 v3:Value} {W W':World} (h:PartsV ob text body a b c v1 v2 v3 W) (hb:W.grownBy W' (some ob)):PartsV ob text body a b c v1 v2 v3 W':=
 ⟨h.1,h.2.1.grown hb (.inr rfl),h.2.2.1.grown hb (.inr rfl),h.2.2.2.grown hb (.inr rfl)⟩
theorem VLate.below {ks:List KeyM} {kind text:ByteArray} {ob:Nat} {a b c:List Int} {i:Nat} {W W':World} (h:VLate ks kind text ob a b c i W) (hb:Below W.heap.size W W'):VLate ks kind text ob a b c i W':=by
 obtain⟨body,v1,v2,v3,h0,h1,h2,h3,h4,k0,k1,g1,g2,g3,g4,g5,g6,g7⟩:=h
 exact⟨body,v1,v2,v3,h0,h1,h2,h3,h4,k0,k1,g1.below hb,g2.below hb g2.lt,RepS.keeps (Keeps.grown (zaX hb none) (fun b _ e=>by cases e)) (fun _ h _=>h) _ _ g3,g4,g5,g6,g7⟩
theorem VF.below {ks:List KeyM} {kind text:ByteArray} {ob:Nat}: ∀{i:Nat} {W W':World},VF ks kind text ob i W→Below W.heap.size W W'→VF ks kind text ob i W'
 |0,_,_,h,hb=>⟨h.1,h.2.below hb h.2.lt⟩
 |1,_,_,h,hb=>⟨h.1,h.2.below hb h.2.lt⟩
 |2,_,_,h,hb=>⟨h.1,h.2.below hb h.2.lt⟩
 |3,_,_,h,hb=>⟨h.1,h.2.below hb h.2.lt⟩
 |4,_,_,h,hb=>by
  obtain⟨h0,a,b,c,body,v1,v2,v3,h1,h2,h3⟩:=h
  exact⟨h0,a,b,c,body,v1,v2,v3,h1,h2.below hb,h3.below hb h3.lt⟩
 |i+5,_,_,h,hb=>by
  obtain⟨h0,a,b,c,h1,h2⟩:=h
  exact⟨h0,a,b,c,h1,h2.below hb⟩
theorem zcJ {ks:List KeyM} {kind text:ByteArray} (h:okN ks kind text 3):verM ks kind text=match cutL (strL text)with
 |none=>([],[],80)
 |some (a,b,c)=>verP ks kind a b c:=by
 obtain⟨h1,h2,h3⟩:=h
 have:=h3 (by decide)
 unfold verM
 rw[if_neg (by rw[h1 (by decide)];decide),if_neg (by rw[h2 (by decide)];decide),if_neg (by omega)]
 cases cutL (strL text)with
 |none=>rfl
 |some p=>obtain⟨a,b,c⟩:=p;rfl
theorem ask_v (w4:World) (ob b:Nat) (no:Int) (found:ByteArray) (q:Nat) (first caps:Array Value) (r:Bool) (VI VJ:World→Prop) (E:Value→World→Prop) (hno:no≠0) (hent: ∀args w,(callFunc q args).run Tryz.prog w= .ok (.enter q args) w)
  (hU:UnlAt w4 b no found q first caps) (hb:ob<b) (hV: ∀W W',VJ W→Below W.heap.size W W'→VJ W')
  (hq: ∀W,w4.grownBy W (some ob)→VI W→Calls Tryz.prog q (first++caps) W fun e w'=>e= .returned (.bool r)∧W.grownBy w' (some ob)∧(r=true→VJ w'))
  (hE:r=false→ ∀W b',w4.grownBy W (some ob)→W.cell? ⟨b',0,none⟩=some (.iface 54 (.int .i64 no))→E (.iface 97 (.pointer (some ⟨b',0,none⟩))) W):
  ErrAsk 61 #[.pointer (some ⟨b+2,0,none⟩),.pointer (some ⟨b,0,none⟩),.pointer (some ⟨b+1,0,none⟩)] (fun W=>w4.grownBy W (some ob)∧VI W) (fun W=>w4.grownBy W (some ob)∧VJ W) E:=by
 have hu: ∀W,w4.grownBy W (some ob)→UnlAt W b no found q first caps:=fun W hg=>hU.grown hg (fun e=>by injection e with e;omega) (fun e=>by injection e with e;omega) (fun e=>by injection e with e;omega)
 refine ErrAsk.unl b no found q first caps r _ _ E (fun W=>w4.grownBy W (some ob)∧(r=true→VJ W)) hno hent (fun W h=>hu W h.1) (fun W h=>hu W h.1) (fun W W' h hb=>⟨h.1.trans ((zaX hb none).but _),fun hr=>hV W W' (h.2 hr) hb⟩) ?_ (fun hr W h=>⟨h.1,h.2 hr⟩) (fun hr W b' h hc=>hE hr W b' h.1 hc)
 rintro W ⟨hg,hv⟩
 refine(hq W hg hv).mono ?_
 rintro e w' ⟨rfl,h1,h2⟩
 exact⟨rfl,hg.trans h1,h2⟩
def wV3:ByteArray:=⟨#[110,111,116,32,116,104,114,101,101,32,112,97,114,116,115,32,111,102,32,98,97,115,101,54,52,117,114,108]⟩
def wV4:ByteArray:=⟨#[97,32,104,101,97,100,101,114,32,111,102,32,97,110,111,116,104,101,114,32,102,111,114,109]⟩
def wV5:ByteArray:=⟨#[97,110,111,116,104,101,114,32,97,108,103,111,114,105,116,104,109]⟩
def wV6:ByteArray:=⟨#[97,110,111,116,104,101,114,32,107,105,110,100]⟩
def wV7:ByteArray:=⟨#[110,111,32,107,101,121,32,111,102,32,116,104,97,116,32,110,97,109,101]⟩
def wV8:ByteArray:=⟨#[97,110,111,116,104,101,114,32,116,97,103]⟩
theorem entV1: ∀args w,(callFunc 29 args).run Tryz.prog w= .ok (.enter 29 args) w:=enters_of Tryz.func29 (by kernel_rfl) rfl
theorem entV2: ∀args w,(callFunc 32 args).run Tryz.prog w= .ok (.enter 32 args) w:=enters_of Tryz.func32 (by kernel_rfl) rfl
theorem entV3: ∀args w,(callFunc 34 args).run Tryz.prog w= .ok (.enter 34 args) w:=enters_of Tryz.func34 (by kernel_rfl) rfl
theorem entV4: ∀args w,(callFunc 35 args).run Tryz.prog w= .ok (.enter 35 args) w:=enters_of Tryz.func35 (by kernel_rfl) rfl
theorem entRH: ∀args w,(callFunc 31 args).run Tryz.prog w= .ok (.enter 31 args) w:=enters_of Tryz.func31 (by kernel_rfl) rfl
theorem entIT: ∀args w,(callFunc 37 args).run Tryz.prog w= .ok (.enter 37 args) w:=enters_of Tryz.func37 (by kernel_rfl) rfl
theorem cutQ_any (text:ByteArray) (p ob:Nat) (w:World) (hp:w.cell? ⟨p,0,none⟩=some (.string text)) (hbk:Blk w ob 65 initO) (hM:MaxLW w) (hs:text.size≤4096):
  Calls Tryz.prog 29 #[.pointer (some ⟨ob,0,none⟩),.pointer (some ⟨p,0,none⟩)] w (CutTells w ob text (initO.drop 4)):=by
 have HC:=Lib.hid (cut_any text ob _ _ _ _ _ w hbk (by intro v hv x;simp[initO]at hv;rcases hv with rfl|rfl|rfl|rfl|rfl|rfl|rfl|rfl|rfl|rfl|rfl<;>simp) hM hs)
 clear hbk hM
 go_enter Tryz.func29,Tryz.ntmps29
 go_wp2_with fail
 refine HC.out.mono ?_
 rintro e w1 ⟨hg,h⟩
 have HG:=Lib.hid hg
 have HH:=Lib.hid h
 clear hg h
 rcases HH.out with⟨h1,rfl⟩|⟨a,b,c,body,v1,v2,v3,h1,rfl,h2,h3,h4,h5,h6⟩
 ·have H1:=Lib.hid h1
  clear h1 HH
  go_wp2
  go_ret
  exact⟨HG.out,.inl ⟨H1.out,rfl⟩⟩
 ·have H1:=Lib.hid (And.intro h1 (And.intro h2 (And.intro h3 (And.intro h4 (And.intro h5 h6)))))
  clear h1 h2 h3 h4 h5 h6 HH
  go_wp2
  go_ret
  exact⟨HG.out,.inr ⟨a,b,c,body,v1,v2,v3,H1.out.1,rfl,H1.out.2⟩⟩
theorem algQ_any (j:J) (ob:Nat) (c0 c1 c2 c3 h0 h1 h2 h3 h4:Value) (rest:List Value) (w:World) (hbk:Blk w ob 65 (c0::c1::c2::c3::h0::h1::h2::h3::h4::rest)) (hj:RepJ w j (.agg #[h0,h1,h2,h3,h4])) (hsm: ∀x∈j.l,Sm x):
  Calls Tryz.prog 32 #[.pointer (some ⟨ob,0,none⟩)] w fun e w'=>e= .returned (.bool (sayB j sAlg sHS))∧Below w.heap.size w w':=by
 have HC:=Lib.hid (zmt j ob c0 c1 c2 c3 h0 h1 h2 h3 h4 rest sAlg sHS w hbk hj hsm (by decide))
 obtain⟨r,hr⟩: ∃r,r=sayB j sAlg sHS:=⟨_,rfl⟩
 rw[←hr]at HC⊢
 clear hbk hj hsm hr
 go_enter Tryz.func32,Tryz.ntmps32
 go_wp2_with fail
 refine HC.out.mono ?_
 rintro e w1 ⟨rfl,hb⟩
 have HB:=Lib.hid hb
 clear hb
 go_wp2
 go_ret
 exact⟨rfl,HB.out⟩
theorem typQ_any (j:J) (ob p:Nat) (kind:ByteArray) (c0 c1 c2 c3 h0 h1 h2 h3 h4:Value) (rest:List Value) (w:World) (hp:w.cell? ⟨p,0,none⟩=some (.string kind)) (hbk:Blk w ob 65 (c0::c1::c2::c3::h0::h1::h2::h3::h4::rest)) (hj:RepJ w j (.agg #[h0,h1,h2,h3,h4])) (hsm: ∀x∈j.l,Sm x) (hk:kind.size≤9223372036854775807):
  Calls Tryz.prog 34 #[.pointer (some ⟨ob,0,none⟩),.pointer (some ⟨p,0,none⟩)] w fun e w'=>e= .returned (.bool (sayB j sTyp kind))∧Below w.heap.size w w':=by
 have HC:=Lib.hid (zmt j ob c0 c1 c2 c3 h0 h1 h2 h3 h4 rest sTyp kind w hbk hj hsm hk)
 obtain⟨r,hr⟩: ∃r,r=sayB j sTyp kind:=⟨_,rfl⟩
 rw[←hr]at HC⊢
 clear hbk hj hsm hr
 go_enter Tryz.func34,Tryz.ntmps34
 go_wp2_with fail
 refine HC.out.mono ?_
 rintro e w1 ⟨rfl,hb⟩
 have HB:=Lib.hid hb
 clear hb
 go_wp2
 go_ret
 exact⟨rfl,HB.out⟩
theorem findQ_any (j:J) (ks:List KeyM) (A:Option Addr) (n c p:Nat) (ob:Nat) (c0 c1 c2 c3 h0 h1 h2 h3 h4 k0 k1:Value) (w:World) (hp:w.cell? ⟨p,0,none⟩=some (.slice A n c)) (hbk:Blk w ob 65 [c0,c1,c2,c3,h0,h1,h2,h3,h4,k0,k1]) (hj:RepS w (fun b=>b≠ob) j (.agg #[h0,h1,h2,h3,h4])) (hsm: ∀x∈j.l,Sm x)
  (hn:ks.length=n) (hn9:n≤1000000) (hk:KeyOk ks) (hr:RingAt w A ks):
  Calls Tryz.prog 35 #[.pointer (some ⟨ob,0,none⟩),.pointer (some ⟨p,0,none⟩)] w (FindTells w ob [c0,c1,c2,c3,h0,h1,h2,h3,h4] (ks.find? fun k=>sayB j sKid k.1)):=by
 have HC:=Lib.hid (findKey_any j ks A n c ob c0 c1 c2 c3 h0 h1 h2 h3 h4 k0 k1 w hbk hj hsm hn hn9 hk hr)
 obtain⟨r,hrr⟩: ∃r,r=(ks.find? fun k=>sayB j sKid k.1):=⟨_,rfl⟩
 rw[←hrr]at HC⊢
 clear hbk hj hsm hrr hn hk hr
 go_enter Tryz.func35,Tryz.ntmps35
 go_wp2_with fail
 refine HC.out.mono ?_
 rintro e w1 ⟨hg,h⟩
 have HG:=Lib.hid hg
 have HH:=Lib.hid h
 clear hg h
 rcases HH.out with⟨h1,rfl⟩|⟨k,h1,rfl,h2⟩
 ·have H1:=Lib.hid h1
  clear h1 HH
  go_wp2
  go_ret
  exact⟨HG.out,.inl ⟨H1.out,rfl⟩⟩
 ·have H1:=Lib.hid (And.intro h1 h2)
  clear h1 h2 HH
  go_wp2
  go_ret
  exact⟨HG.out,.inr ⟨k,H1.out.1,rfl,H1.out.2⟩⟩
theorem ErrAsk.void {g:Nat} {caps:Array Value} {I J:World→Prop} {E:Value→World→Prop} (hent: ∀args w,(callFunc g args).run Tryz.prog w= .ok (.enter g args) w) (h: ∀W,¬I W):ErrAsk g caps I J E:=⟨hent,fun W hW=>absurd hW (h W)⟩
theorem zgl {l:List Int} (h:zdi l=true):(zai l).2.1=0∧ ∀x∈(zai l).1.l,Sm x:=by
 unfold zdi at h
 rw[Bool.and_eq_true,Bool.and_eq_true,decide_eq_true_eq]at h
 refine⟨h.1.1,fun x hx=> ?_⟩
 have hs:=(zib h.1.1).1
 cases hp:(zai l).1 with
 |mk kind n s ls k=>
  rw[hp]at hs hx
  cases hs with
  |mk a1 a2 a3=>exact a3 x hx
theorem zmb {l a b c:List Int} (h:cutL l=some (a,b,c)):zdX l=[a,b,c]∧zas a= -1∧zas b= -1∧zas c= -1:=by
 unfold cutL at h
 split at h
 ·rename_i x y z e
  split at h
  ·rename_i hf
   injection h with h
   injection h with h1 h2
   injection h2 with h2 h3
   subst h1;subst h2;subst h3
   exact⟨e,hf⟩
  ·cases h
 ·cases h
theorem zke {l a b c p:List Int} (h:cutL l=some (a,b,c)) (hp:p∈[a,b,c]) (hl:l.length≤4096):Bytes (decL p)∧(decL p).length≤4096:=by
 obtain⟨h1,h2,h3,h4⟩:=zmb h
 have hd:=(zeu l p (by rw[h1];exact hp)).2.2
 refine⟨?_,by rw[zdy];omega⟩
 simp at hp
 rcases hp with rfl|rfl|rfl
 ·exact zga (Good.of_fault h2)
 ·exact zga (Good.of_fault h3)
 ·exact zga (Good.of_fault h4)
structure VLay (w4:World) (ob z:Nat) (A:Option Addr) (n c:Nat) (kind text:ByteArray):Prop where
 hz:ob<z
 pr: ∃p,p<ob∧w4.cell? ⟨p,0,none⟩=some (.slice A n c)∧UnlAt w4 (z+21) 83 wV7 35 #[] #[.pointer (some ⟨ob,0,none⟩),.pointer (some ⟨p,0,none⟩)]
 pk: ∃p,p<ob∧w4.cell? ⟨p,0,none⟩=some (.string kind)∧UnlAt w4 (z+18) 81 wV6 34 #[] #[.pointer (some ⟨ob,0,none⟩),.pointer (some ⟨p,0,none⟩)]
 pt: ∃p,p<ob∧w4.cell? ⟨p,0,none⟩=some (.string text)∧UnlAt w4 (z+9) 80 wV3 29 #[] #[.pointer (some ⟨ob,0,none⟩),.pointer (some ⟨p,0,none⟩)]
 u4:UnlAt w4 (z+12) 81 wV4 31 #[.pointer (some ⟨ob,0,none⟩)] #[]
 u5:UnlAt w4 (z+15) 82 wV5 32 #[] #[.pointer (some ⟨ob,0,none⟩)]
 u8:UnlAt w4 (z+24) 84 wV8 37 #[.pointer (some ⟨ob,0,none⟩)] #[]
def VE (ks:List KeyM) (kind text:ByteArray) (w4:World) (ob:Nat) (v:Value) (W:World):Prop:= ∃m,m≠0∧verM ks kind text=([],[],m)∧WErr m v W∧w4.grownBy W (some ob)
def VI (ks:List KeyM) (kind text:ByteArray) (w4:World) (ob:Nat) (i:Nat) (W:World):Prop:=w4.grownBy W (some ob)∧VF ks kind text ob i W
abbrev unlC (b:Nat):Array Value:= #[.pointer (some ⟨b+2,0,none⟩),.pointer (some ⟨b,0,none⟩),.pointer (some ⟨b+1,0,none⟩)]
section
variable {ks:List KeyM} {kind text:ByteArray} {w4:World} {ob z:Nat} {A:Option Addr} {n c:Nat}
theorem ask_3 (h:VLay w4 ob z A n c kind text) (hM: ∀W,w4.grownBy W (some ob)→Ask8 W):ErrAsk 61 (unlC (z+9)) (VI ks kind text w4 ob 3) (VI ks kind text w4 ob 4) (VE ks kind text w4 ob):=by
 obtain⟨p,hp,hc,hu⟩:=h.pt
 by_cases hok:okN ks kind text 3
 case neg=>exact ErrAsk.void (enters_of Tryz.func61 (by kernel_rfl) rfl) fun W hW=>hok hW.2.1
 refine ask_v w4 ob (z+9) 80 wV3 _ #[] _ (cutL (strL text)).isSome _ _ _ (by decide) entV1 hu (by have:=h.hz;omega) (fun W W' hv hb=>VF.below hv hb) ?_ ?_
 ·rintro W hg ⟨_,hblk⟩
  refine(cutQ_any text p ob W (hg.cell hc (fun e=>by injection e with e;exact absurd e (by show ¬p=ob;omega))) hblk (hM W hg).maxl (hok.2.2 (by decide))).mono ?_
  rintro e w' ⟨h1,h2|⟨a,b,c',body,v1,v2,v3,g1,g2,g3,g4,g5,g6,g7⟩⟩
  ·exact⟨by rw[h2.1];exact h2.2,h1,fun hx=>by rw[h2.1]at hx;cases hx⟩
  ·exact⟨by rw[g1];exact g2,h1,fun _=>⟨hok,a,b,c',body,v1,v2,v3,g1,⟨g3,g5,g6,g7⟩,g4⟩⟩
 ·intro hr W b' hg hcell
  refine⟨80,by decide,?_,zcQ (by decide) hcell,hg⟩
  rw[zcJ hok]
  cases hq:cutL (strL text)with
  |none=>rfl
  |some p=>rw[hq]at hr;cases hr
theorem ask_4 {a b c':List Int} (h:VLay w4 ob z A n c kind text) (hcut:cutL (strL text)=some (a,b,c')) (hok:okN ks kind text 3) (hM: ∀W,w4.grownBy W (some ob)→Ask8 W):ErrAsk 61 (unlC (z+12)) (VI ks kind text w4 ob 4) (VI ks kind text w4 ob 5) (VE ks kind text w4 ob):=by
 obtain⟨d1,d2⟩:=zke (p:=a) hcut (by simp) (by rw[zaQ];exact hok.2.2 (by decide))
 refine ask_v w4 ob (z+12) 81 wV4 _ #[.pointer (some ⟨ob,0,none⟩)] #[] (zdi (decL a)) _ _ _ (by decide) entRH h.u4 (by have:=h.hz;omega) (fun W W' hv hb=>VF.below hv hb) ?_ ?_
 ·rintro W hg ⟨_,a1,b1,c1,body,v1,v2,v3,e,hp,hblk⟩
  rw[hcut]at e
  injection e with e
  injection e with e1 e2
  injection e2 with e2 e3
  subst e1;subst e2;subst e3
  obtain⟨A1,k1,rfl,hcap,hsrc⟩:=hp.2.1
  refine(zks ob (decL a) (.string body) v2 v3 _ _ _ _ _ _ _ A1 (decL a).length k1 W hblk rfl (by omega) d1 (Lies.of hsrc) (hM W hg).ask).mono ?_
  rintro e w' ⟨h1,h0,q1,q2,q3,q4,g1,g2,g3⟩
  refine⟨g1,h1,fun hr=>⟨hok,a,b,c',hcut,body,_,v2,v3,h0,q1,q2,q3,q4,_,_,hp.grown h1,g2,?_,hr,fun h=>absurd h (by decide),fun h=>absurd h (by decide),fun h=>absurd h (by decide)⟩⟩
  exact RepS.keeps (Keeps.refl _ w') (fun x hx _=>by have:=hblk.lt;show x≠ob;omega) _ _ g3
 ·intro hr W b' hg hcell
  refine⟨81,by decide,?_,zcQ (by decide) hcell,hg⟩
  rw[zcJ hok,hcut]
  show verP ks kind a b c'=_
  unfold verP
  rw[if_pos hr]
theorem vlate {a b c':List Int} {i:Nat} {W:World} (hcut:cutL (strL text)=some (a,b,c')) (h:VF ks kind text ob (i+5) W):VLate ks kind text ob a b c' (i+5) W:=by
 obtain⟨_,a1,b1,c1,e,hv⟩:=h
 rw[hcut]at e
 injection e with e
 injection e with e1 e2
 injection e2 with e2 e3
 subst e1;subst e2;subst e3
 exact hv
theorem ask_5 {a b c':List Int} (h:VLay w4 ob z A n c kind text) (hcut:cutL (strL text)=some (a,b,c')) (hok:okN ks kind text 3):ErrAsk 61 (unlC (z+15)) (VI ks kind text w4 ob 5) (VI ks kind text w4 ob 6) (VE ks kind text w4 ob):=by
 by_cases hh:zdi (decL a)=true
 case neg=>
  refine ErrAsk.void (enters_of Tryz.func61 (by kernel_rfl) rfl) fun W hW=> ?_
  obtain⟨_,_,_,_,_,_,_,_,_,_,_,_,_,_,g,_⟩:=vlate (i:=0) hcut hW.2
  exact hh g
 obtain⟨s1,s2⟩:=zgl hh
 refine ask_v w4 ob (z+15) 82 wV5 _ #[] _ (sayB (zai (decL a)).1 sAlg sHS) _ _ _ (by decide) entV2 h.u5 (by have:=h.hz;omega) (fun W W' hv hb=>VF.below hv hb) ?_ ?_
 ·rintro W hg hv
  obtain⟨body,v1,v2,v3,h0,h1,h2,h3,h4,k0,k1,g1,g2,g3,g4,g5,g6,g7⟩:=vlate (i:=0) hcut hv
  refine(algQ_any _ ob _ _ _ _ h0 h1 h2 h3 h4 [k0,k1] W g2 (RepS.toJ _ _ g3) s2).mono ?_
  rintro e w' ⟨rfl,hb⟩
  refine⟨rfl,(zaX hb none).but _,fun hr=>⟨hok,a,b,c',hcut,VLate.below (i:=6) ⟨body,v1,v2,v3,h0,h1,h2,h3,h4,k0,k1,g1,g2,g3,g4,fun _=>hr,fun h=>absurd h (by decide),fun h=>absurd h (by decide)⟩ hb⟩⟩
 ·intro hr W b' hg hcell
  refine⟨82,by decide,?_,zcQ (by decide) hcell,hg⟩
  rw[zcJ hok,hcut]
  show verP ks kind a b c'=_
  unfold verP
  rw[if_neg (by rw[hh];decide),if_pos hr]
theorem ask_6 {a b c':List Int} (h:VLay w4 ob z A n c kind text) (hcut:cutL (strL text)=some (a,b,c')) (hok:okN ks kind text 3):ErrAsk 61 (unlC (z+18)) (VI ks kind text w4 ob 6) (VI ks kind text w4 ob 7) (VE ks kind text w4 ob):=by
 obtain⟨p,hp,hc,hu⟩:=h.pk
 by_cases hh:zdi (decL a)=true∧sayB (zai (decL a)).1 sAlg sHS=true
 case neg=>
  refine ErrAsk.void (enters_of Tryz.func61 (by kernel_rfl) rfl) fun W hW=> ?_
  obtain⟨_,_,_,_,_,_,_,_,_,_,_,_,_,_,g4,g5,_⟩:=vlate (i:=1) hcut hW.2
  exact hh ⟨g4,g5 (by decide)⟩
 obtain⟨s1,s2⟩:=zgl hh.1
 refine ask_v w4 ob (z+18) 81 wV6 _ #[] _ (sayB (zai (decL a)).1 sTyp kind) _ _ _ (by decide) entV3 hu (by have:=h.hz;omega) (fun W W' hv hb=>VF.below hv hb) ?_ ?_
 ·rintro W hg hv
  obtain⟨body,v1,v2,v3,h0,h1,h2,h3,h4,k0,k1,g1,g2,g3,g4,g5,g6,g7⟩:=vlate (i:=1) hcut hv
  refine(typQ_any _ ob p kind _ _ _ _ h0 h1 h2 h3 h4 [k0,k1] W (hg.cell hc (fun e=>by injection e with e;exact absurd e (by show ¬p=ob;omega))) g2 (RepS.toJ _ _ g3) s2 (by have:=zcW (hok.2.1 (by decide));omega)).mono ?_
  rintro e w' ⟨rfl,hb⟩
  refine⟨rfl,(zaX hb none).but _,fun hr=>⟨hok,a,b,c',hcut,VLate.below (i:=7) ⟨body,v1,v2,v3,h0,h1,h2,h3,h4,k0,k1,g1,g2,g3,g4,fun _=>hh.2,fun _=>hr,fun h=>absurd h (by decide)⟩ hb⟩⟩
 ·intro hr W b' hg hcell
  refine⟨81,by decide,?_,zcQ (by decide) hcell,hg⟩
  rw[zcJ hok,hcut]
  show verP ks kind a b c'=_
  unfold verP
  rw[if_neg (by rw[hh.1];decide),if_neg (by rw[hh.2];decide),if_pos hr]
theorem ask_7 {a b c':List Int} (h:VLay w4 ob z A n c kind text) (hcut:cutL (strL text)=some (a,b,c')) (hok:okN ks kind text 3) (hn:ks.length=n) (hk:KeyOk ks) (hR: ∀W,w4.grownBy W (some ob)→RingAt W A ks):ErrAsk 61 (unlC (z+21)) (VI ks kind text w4 ob 7) (VI ks kind text w4 ob 8) (VE ks kind text w4 ob):=by
 obtain⟨p,hp,hc,hu⟩:=h.pr
 by_cases hh:zdi (decL a)=true∧sayB (zai (decL a)).1 sAlg sHS=true∧sayB (zai (decL a)).1 sTyp kind=true
 case neg=>
  refine ErrAsk.void (enters_of Tryz.func61 (by kernel_rfl) rfl) fun W hW=> ?_
  obtain⟨_,_,_,_,_,_,_,_,_,_,_,_,_,_,g4,g5,g6,_⟩:=vlate (i:=2) hcut hW.2
  exact hh ⟨g4,g5 (by decide),g6 (by decide)⟩
 obtain⟨s1,s2⟩:=zgl hh.1
 have hl4:=(zbl (hok.1 (by decide))).2.1
 refine ask_v w4 ob (z+21) 83 wV7 _ #[] _ (ks.find? fun k=>sayB (zai (decL a)).1 sKid k.1).isSome _ _ _ (by decide) entV4 hu (by have:=h.hz;omega) (fun W W' hv hb=>VF.below hv hb) ?_ ?_
 ·rintro W hg hv
  obtain⟨body,v1,v2,v3,h0,h1,h2,h3,h4,k0,k1,g1,g2,g3,g4,g5,g6,g7⟩:=vlate (i:=2) hcut hv
  refine(findQ_any _ ks A n c p ob _ _ _ _ h0 h1 h2 h3 h4 k0 k1 W (hg.cell hc (fun e=>by injection e with e;exact absurd e (by show ¬p=ob;omega))) g2 g3 s2 hn (by omega) hk (hR W hg)).mono ?_
  rintro e w' ⟨q1,⟨q2,rfl⟩|⟨k,q2,rfl,q3⟩⟩
  ·exact⟨by rw[q2];rfl,q1,fun hr=>by rw[q2]at hr;cases hr⟩
  ·refine⟨by rw[q2];rfl,q1,fun hr=>⟨hok,a,b,c',hcut,body,v1,v2,v3,h0,h1,h2,h3,h4,.string k.1,.string k.2,g1.grown q1,q3,?_,g4,g5|>fun _ _=>hh.2.1,fun _=>hh.2.2,fun _=>⟨k,q2,rfl,rfl,fun h=>absurd h (by decide)⟩⟩⟩
   exact RepS.keeps (Keeps.grown q1 (fun x hx e=>hx (by injection e))) (fun _ h _=>h) _ _ g3
 ·intro hr W b' hg hcell
  refine⟨83,by decide,?_,zcQ (by decide) hcell,hg⟩
  rw[zcJ hok,hcut]
  show verP ks kind a b c'=_
  unfold verP
  rw[if_neg (by rw[hh.1];decide),if_neg (by rw[hh.2.1];decide),if_neg (by rw[hh.2.2];decide)]
  cases hq:ks.find? (fun k=>sayB (zai (decL a)).1 sKid k.1)with
  |none=>rfl
  |some p=>rw[hq]at hr;cases hr
theorem ask_8 {a b c':List Int} (h:VLay w4 ob z A n c kind text) (hcut:cutL (strL text)=some (a,b,c')) (hok:okN ks kind text 3) (hM: ∀W,w4.grownBy W (some ob)→Ask8 W):ErrAsk 61 (unlC (z+24)) (VI ks kind text w4 ob 8) (VI ks kind text w4 ob 9) (VE ks kind text w4 ob):=by
 by_cases hh:zdi (decL a)=true∧sayB (zai (decL a)).1 sAlg sHS=true∧sayB (zai (decL a)).1 sTyp kind=true∧ ∃k,ks.find? (fun k=>sayB (zai (decL a)).1 sKid k.1)=some k
 case neg=>
  refine ErrAsk.void (enters_of Tryz.func61 (by kernel_rfl) rfl) fun W hW=> ?_
  obtain⟨_,_,_,_,_,_,_,_,_,_,_,_,_,_,g4,g5,g6,g7⟩:=vlate (i:=3) hcut hW.2
  obtain⟨k,hk,_⟩:=g7 (by decide)
  exact hh ⟨g4,g5 (by decide),g6 (by decide),k,hk⟩
 obtain⟨hh1,hh2,hh3,k,hfind⟩:=hh
 have hkm:=List.mem_of_find?_eq_some hfind
 have hks:=(zbl (hok.1 (by decide))).2.2 k hkm
 have htx:=hok.2.2 (by decide)
 obtain⟨d1,d2⟩:=zke (p:=c') hcut (by simp) (by rw[zaQ];exact htx)
 have hdot:=dotsL_three (zmb hcut).1
 have hlen:=congrArg List.length hdot
 simp only[List.length_append,List.length_cons,zaQ]at hlen
 refine ask_v w4 ob (z+24) 84 wV8 _ #[.pointer (some ⟨ob,0,none⟩)] #[] (decide (macL (strL k.2) (a++46::b)=decL c')) _ _ _ (by decide) entIT h.u8 (by have:=h.hz;omega) (fun W W' hv hb=>VF.below hv hb) ?_ ?_
 ·rintro W hg hv
  obtain⟨body,v1,v2,v3,h0,h1,h2,h3,h4,k0,k1,g1,g2,g3,g4,g5,g6,g7⟩:=vlate (i:=3) hcut hv
  obtain⟨k',hk',rfl,rfl,_⟩:=g7 (by decide)
  rw[hfind]at hk'
  injection hk' with hk'
  subst hk'
  obtain⟨A3,k3,e3,hcap,hsrc⟩:=g1.2.2.2
  have hbz:body.size≤1000000:=by
   have:=congrArg List.length g1.1
   simp only[List.length_append,List.length_cons,zaQ]at this
   omega
  have g2':=g2
  rw[e3]at g2'
  rw[←g1.1]
  refine(isTagged_any ob body k.1 k.2 v1 v2 h0 h1 h2 h3 h4 A3 (decL c').length k3 (decL c') W g2' rfl (by omega) d1 (Lies.of hsrc) (by omega) hbz (hM W hg).tabs).mono ?_
  rintro e w' ⟨rfl,hb⟩
  refine⟨rfl,(zaX hb none).but _,fun hr=>⟨hok,a,b,c',hcut,VLate.below (i:=9) ⟨body,v1,v2,v3,h0,h1,h2,h3,h4,_,_,g1,g2,g3,g4,g5|>fun _ _=>hh2,fun _=>hh3,fun _=>⟨k,hfind,rfl,rfl,fun _=>by rw[←g1.1];exact of_decide_eq_true hr⟩⟩ hb⟩⟩
 ·intro hr W b' hg hcell
  refine⟨84,by decide,?_,zcQ (by decide) hcell,hg⟩
  rw[zcJ hok,hcut]
  show verP ks kind a b c'=_
  unfold verP
  rw[if_neg (by rw[hh1];decide),if_neg (by rw[hh2];decide),if_neg (by rw[hh3];decide),hfind]
  show(if macL (strL k.2) (a++46::b)=decL c' then _ else _)=_
  rw[if_neg (of_decide_eq_false hr)]
end
theorem VLay.below {w w':World} {ob z:Nat} {A:Option Addr} {n c:Nat} {kind text:ByteArray} (h:VLay w ob z A n c kind text) (hb:Below w.heap.size w w'):VLay w' ob z A n c kind text:=by
 obtain⟨h0,⟨p,h1,h2,h3⟩,⟨q,h4,h5,h6⟩,⟨r,h7,h8,h9⟩,u4,u5,u8⟩:=h
 exact⟨h0,⟨p,h1,(hb.cell (zaa h2)).trans h2,h3.below hb⟩,⟨q,h4,(hb.cell (zaa h5)).trans h5,h6.below hb⟩,⟨r,h7,(hb.cell (zaa h8)).trans h8,h9.below hb⟩,u4.below hb,u5.below hb,u8.below hb⟩
theorem ver_first (ks:List KeyM) (A:Option Addr) (n c:Nat) (kind text:ByteArray) (ob z:Nat) (w0 wz:World) (hz:z=w0.heap.size) (h3:Three w0 wz A n c kind text) (hl:VLay wz ob z A n c kind text) (hblk:Blk wz ob 65 initO)
  (hn:ks.length=n) (hn9:n≤9223372036854775807) (hnc:n≤c) (hk:KeyOk ks) (hM: ∀W,wz.grownBy W (some ob)→Ask8 W) (hR: ∀W,wz.grownBy W (some ob)→RingAt W A ks):
  Calls Tryz.prog 19 #[.slice (some ⟨wz.heap.size,0,none⟩) 9 9] (wz.alloc (.cells #[.func (.func 46) #[] #[.pointer (some ⟨z,0,none⟩)],unlV (z+2),unlV (z+6),unlV (z+9),unlV (z+12),unlV (z+15),unlV (z+18),unlV (z+21),unlV (z+24)] 50))
   fun e w'=>wz.grownBy w' (some ob)∧((e= .returned .nilIface∧VF ks kind text ob 9 w')∨ ∃d x m,e= .returned (.iface d x)∧m≠0∧verM ks kind text=([],[],m)∧WErr m (.iface d x) w'):=by
 obtain⟨w4,hw4⟩: ∃W,W=wz.alloc (.cells #[.func (.func 46) #[] #[.pointer (some ⟨z,0,none⟩)],unlV (z+2),unlV (z+6),unlV (z+9),unlV (z+12),unlV (z+15),unlV (z+18),unlV (z+21),unlV (z+24)] 50):=⟨_,rfl⟩
 have hb4:Below wz.heap.size wz w4:=by rw[hw4];exact zad _ _
 have hg4:wz.grownBy w4 (some ob):=(zaX hb4 none).but _
 have r0:w4.cell? ⟨wz.heap.size,0,none⟩=some (.func (.func 46) #[] #[.pointer (some ⟨z,0,none⟩)]):=by rw[hw4];simp
 have r1:w4.cell? ⟨wz.heap.size,1,none⟩=some (unlV (z+2)):=by rw[hw4];simp
 have r2:w4.cell? ⟨wz.heap.size,2,none⟩=some (unlV (z+6)):=by rw[hw4];simp
 have r3:w4.cell? ⟨wz.heap.size,3,none⟩=some (unlV (z+9)):=by rw[hw4];simp
 have r4:w4.cell? ⟨wz.heap.size,4,none⟩=some (unlV (z+12)):=by rw[hw4];simp
 have r5:w4.cell? ⟨wz.heap.size,5,none⟩=some (unlV (z+15)):=by rw[hw4];simp
 have r6:w4.cell? ⟨wz.heap.size,6,none⟩=some (unlV (z+18)):=by rw[hw4];simp
 have r7:w4.cell? ⟨wz.heap.size,7,none⟩=some (unlV (z+21)):=by rw[hw4];simp
 have r8:w4.cell? ⟨wz.heap.size,8,none⟩=some (unlV (z+24)):=by rw[hw4];simp
 rw[←hw4]
 clear hw4
 subst hz
 have h4:Three w0 w4 A n c kind text:=⟨h3.bel.trans (hb4.mono h3.bel.size),(hb4.cell (zaa h3.ring)).trans h3.ring,(hb4.cell (zaa h3.kd)).trans h3.kd,h3.un.below hb4,(hb4.cell (zaa h3.tx)).trans h3.tx,h3.us.below hb4⟩
 have l4:=hl.below hb4
 have k4:=hblk.below hb4 hblk.lt
 have hM4: ∀W,w4.grownBy W (some ob)→Ask8 W:=fun W hg=>hM W (hg4.trans hg)
 have hR4: ∀W,w4.grownBy W (some ob)→RingAt W A ks:=fun W hg=>hR W (hg4.trans hg)
 have hob:=hl.hz
 have hwz:=hblk.lt
 obtain⟨I,hI⟩: ∃I:Nat→World→Prop,I=VI ks kind text w4 ob:=⟨_,rfl⟩
 obtain⟨E,hE⟩: ∃E:Value→World→Prop,E=VE ks kind text w4 ob:=⟨_,rfl⟩
 obtain⟨a0,a1,a2⟩:=zmd ks A n c kind text w0 w4 h4 hn hn9 hnc hk (some ob) hR4 (fun b h1 _ e=>by injection e with e;omega) (fun W=>Blk W ob 65 initO) (fun W W' hx _ hb=>hx.below hb hx.lt) I E
  (fun i hi=>by
   rw[hI]
   match i,hi with
   |0,_=>rfl
   |1,_=>rfl
   |2,_=>rfl
   |3,_=>rfl)
  (fun v W m h1 h0 h2 h3=>by
   rw[hE]
   refine⟨m,h0,?_,h2,h3⟩
   rw[←h1]at h0⊢
   unfold zcz at h0⊢
   unfold verM
   split
   ·rfl
   ·split
    ·rfl
    ·split
     ·rfl
     ·rename_i q1 q2 q3
      rw[if_neg q1,if_neg q2,if_neg q3]at h0
      exact absurd rfl h0)
 have a3:=ask_3 (ks:=ks) l4 hM4
 have late: ∀i f,4≤i→[(61:Nat),61,61,61,61][i-4]? =some f→i≤8→ErrAsk 61 (unlC (w0.heap.size+(9+3*(i-3)))) (VI ks kind text w4 ob i) (VI ks kind text w4 ob (i+1)) (VE ks kind text w4 ob):=fun i f hi _ h8=>by
  have hent:=enters_of (P:=Tryz.prog) Tryz.func61 (by kernel_rfl) rfl
  by_cases hok:okN ks kind text 3
  case neg=>
   refine ErrAsk.void hent fun W hW=>hok ?_
   match i,hi,h8 with
   |4,_,_=>exact hW.2.1
   |i+5,_,_=>exact hW.2.1
  cases hcut:cutL (strL text)with
  |none=>
   refine ErrAsk.void hent fun W hW=> ?_
   match i,hi,h8 with
   |4,_,_=>obtain⟨_,a,b,c,_,_,_,_,h,_⟩:=hW.2;rw[hcut]at h;cases h
   |i+5,_,_=>obtain⟨_,a,b,c,h,_⟩:=hW.2;rw[hcut]at h;cases h
  |some p=>
   obtain⟨a,b,c'⟩:=p
   match i,hi,h8 with
   |4,_,_=>exact ask_4 l4 hcut hok hM4
   |5,_,_=>exact ask_5 l4 hcut hok
   |6,_,_=>exact ask_6 l4 hcut hok
   |7,_,_=>exact ask_7 l4 hcut hok hn hk hR4
   |8,_,_=>exact ask_8 l4 hcut hok hM4
   |i+9,_,h=>omega
 rw[←hI,←hE]at a3 late
 refine(zgq wz.heap.size 9 9 [(46,#[.pointer (some ⟨w0.heap.size,0,none⟩)]),(61,unlC (w0.heap.size+2)),(61,unlC (w0.heap.size+6)),(61,unlC (w0.heap.size+9)),(61,unlC (w0.heap.size+12)),(61,unlC (w0.heap.size+15)),(61,unlC (w0.heap.size+18)),(61,unlC (w0.heap.size+21)),(61,unlC (w0.heap.size+24))] I E w4 rfl (by decide) ?_ ?_ ?_).mono ?_
 ·intro i f W hf hi
  rw[hI]at hi
  have hne:some wz.heap.size≠some ob:=fun e=>by injection e with e;omega
  match i,hf with
  |0,hf=>injection hf with hf;subst hf;exact hi.1.cell r0 hne
  |1,hf=>injection hf with hf;subst hf;exact hi.1.cell r1 hne
  |2,hf=>injection hf with hf;subst hf;exact hi.1.cell r2 hne
  |3,hf=>injection hf with hf;subst hf;exact hi.1.cell r3 hne
  |4,hf=>injection hf with hf;subst hf;exact hi.1.cell r4 hne
  |5,hf=>injection hf with hf;subst hf;exact hi.1.cell r5 hne
  |6,hf=>injection hf with hf;subst hf;exact hi.1.cell r6 hne
  |7,hf=>injection hf with hf;subst hf;exact hi.1.cell r7 hne
  |8,hf=>injection hf with hf;subst hf;exact hi.1.cell r8 hne
 ·intro i f hf
  match i,hf with
  |0,hf=>injection hf with hf;subst hf;exact a0
  |1,hf=>injection hf with hf;subst hf;exact a1
  |2,hf=>injection hf with hf;subst hf;exact a2
  |3,hf=>injection hf with hf;subst hf;exact a3
  |4,hf=>injection hf with hf;subst hf;exact late 4 _ (by decide) rfl (by decide)
  |5,hf=>injection hf with hf;subst hf;exact late 5 _ (by decide) rfl (by decide)
  |6,hf=>injection hf with hf;subst hf;exact late 6 _ (by decide) rfl (by decide)
  |7,hf=>injection hf with hf;subst hf;exact late 7 _ (by decide) rfl (by decide)
  |8,hf=>injection hf with hf;subst hf;exact late 8 _ (by decide) rfl (by decide)
 ·rw[hI];exact⟨zaY _ _,⟨fun h=>absurd h (by decide),fun h=>absurd h (by decide),fun h=>absurd h (by decide)⟩,k4⟩
 ·rintro e w' (⟨rfl,h⟩|⟨d,x,rfl,h⟩)
  ·rw[hI]at h
   exact⟨hg4.trans h.1,.inl ⟨rfl,h.2⟩⟩
  ·rw[hE]at h
   obtain⟨m,h1,h2,h3,h4⟩:=h
   exact⟨hg4.trans h4,.inr ⟨d,x,m,rfl,h1,h2,h3⟩⟩
def VTells (ks:List KeyM) (kind text:ByteArray) (w:World) (e:Ending) (w':World):Prop:= ∃t u v,e= .returned (.tuple #[.string t,.string u,v])∧strL t=(verM ks kind text).1∧strL u=(verM ks kind text).2.1∧WErr (verM ks kind text).2.2 v w'∧Below w.heap.size w w'
theorem zeh (no:Int) (found:ByteArray) (q:Nat) (first caps:Array Value) (w:World) (b:Nat) (h:w.heap.size=b):Calls Tryz.prog 28 #[.int .i64 no,.string found,.func (.func q) first caps] w fun e w'=>e= .returned (unlV b)∧UnlAt w' b no found q first caps∧w'.heap.size=b+3∧Below w.heap.size w w':=by
 subst h;exact zho no found q first caps w
theorem mustName_at (s:ByteArray) (w:World) (b:Nat) (h:w.heap.size=b):Calls Tryz.prog 21 #[.string s] w fun e w'=>e= .returned (unlV (b+1))∧w'.cell? ⟨b,0,none⟩=some (.string s)∧UnlAt w' (b+1) 1 wName 47 #[] #[.pointer (some ⟨b,0,none⟩)]∧w'.heap.size=b+4∧Below w.heap.size w w':=by
 subst h;exact zid s w
theorem mustShort_at (s:ByteArray) (w:World) (b:Nat) (h:w.heap.size=b):Calls Tryz.prog 22 #[.string s] w fun e w'=>e= .returned (unlV (b+1))∧w'.cell? ⟨b,0,none⟩=some (.string s)∧UnlAt w' (b+1) 2 zge 49 #[] #[.pointer (some ⟨b,0,none⟩)]∧w'.heap.size=b+4∧Below w.heap.size w w':=by
 subst h;exact zfX s w
theorem Three.below {w w4 w5:World} {A:Option Addr} {n c:Nat} {kind text:ByteArray} (h:Three w w4 A n c kind text) (hb:Below w4.heap.size w4 w5):Three w w5 A n c kind text:=
 ⟨h.bel.trans (hb.mono h.bel.size),(hb.cell (zaa h.ring)).trans h.ring,(hb.cell (zaa h.kd)).trans h.kd,h.un.below hb,(hb.cell (zaa h.tx)).trans h.tx,h.us.below hb⟩
theorem ziZ (ks:List KeyM) (A:Option Addr) (n c:Nat) (kind text:ByteArray) (w:World) (hn:ks.length=n) (hn9:n≤9223372036854775807) (hnc:n≤c) (hk:KeyOk ks) (hr:RingAt w A ks) (ha:Ask8 w):
  Calls Tryz.prog 14 #[.slice A n c,.string kind,.string text] w (VTells ks kind text w):=by
 have hmf: ∀(fn:Fn) (first cap:Array Value) (w:World),(Instr.makeFunc fn first cap).run Tryz.prog w= .ok (.func fn first cap) w:=fun _ _ _ _=>rfl
 have HA:=Lib.hid ha
 have HR:=Lib.hid hr
 have HN:=Lib.hid hn
 have HK:=Lib.hid hk
 clear ha hr hn hk
 go_enter Tryz.func14,Tryz.ntmps14
 go_wp2_with fail
 obtain⟨wA,hwA⟩: ∃W,W=((((w.alloc (.cells #[.slice A n c] 22)).alloc (.cells #[.string kind] 9)).alloc (.cells #[.string text] 9)).alloc (.cells #[.string ⟨#[]⟩,.slice none 0 0,.slice none 0 0,.slice none 0 0,.int .i64 0,.int .i64 0,.string ⟨#[]⟩,.slice none 0 0,.slice none 0 0,.string ⟨#[]⟩,.string ⟨#[]⟩] 65)):=⟨_,rfl⟩
 rw[←hwA]
 have HBA:Hid (Below w.heap.size w wA.drew):=Lib.hid (by rw[hwA];exact(((((Below.refl _ _).alloc (Nat.le_refl _) _).alloc (by simp) _).alloc (by first|(simp;done)|(simp;omega)) _).alloc (by first|(simp;done)|(simp;omega)) _).drew)
 have hz0:wA.heap.size=w.heap.size+4:=by rw[hwA];simp
 have x0:wA.cell? ⟨w.heap.size,0,none⟩=some (.slice A n c):=by rw[hwA,World.cell?_alloc_lt _ _ ⟨w.heap.size,0,none⟩ (by first|(simp;done)|(simp;omega)),World.cell?_alloc_lt _ _ ⟨w.heap.size,0,none⟩ (by first|(simp;done)|(simp;omega)),World.cell?_alloc_lt _ _ ⟨w.heap.size,0,none⟩ (by simp)];simp
 have x1:wA.cell? ⟨w.heap.size+1,0,none⟩=some (.string kind):=by rw[hwA,World.cell?_alloc_lt _ _ ⟨w.heap.size+1,0,none⟩ (by first|(simp;done)|(simp;omega)),World.cell?_alloc_lt _ _ ⟨w.heap.size+1,0,none⟩ (by first|(simp;done)|(simp;omega))];simp
 have x2:wA.cell? ⟨w.heap.size+2,0,none⟩=some (.string text):=by rw[hwA,World.cell?_alloc_lt _ _ ⟨w.heap.size+2,0,none⟩ (by simp)];simp[World.cell?_alloc_at]
 have hb0:Blk wA (w.heap.size+3) 65 initO:=by rw[hwA];exact zck _ (by simp) initO _
 clear hwA
 refine wp_region_held_drew (S:=fun X=>X.cell? ⟨w.heap.size,0,none⟩=some (.slice A n c)∧X.cell? ⟨w.heap.size+1,0,none⟩=some (.string kind)∧X.cell? ⟨w.heap.size+2,0,none⟩=some (.string text)) (by kernel_rfl) ⟨x0,x1,x2⟩ (fun hHeld=> ?_)
 obtain⟨w0,hw0⟩: ∃W,W=wA.drew:=⟨_,rfl⟩
 rw[←hw0]at HBA hHeld⊢
 have HZ0:Hid (w0.heap.size=w.heap.size+4):=Lib.hid (by rw[hw0];exact hz0)
 have HOB:Hid (Blk w0 (w.heap.size+3) 65 initO):=Lib.hid (by rw[hw0];exact hb0.drew)
 have HSS:Hid (∀X,Below w0.heap.size w0 X→X.cell? ⟨w.heap.size,0,none⟩=some (.slice A n c)∧X.cell? ⟨w.heap.size+1,0,none⟩=some (.string kind)∧X.cell? ⟨w.heap.size+2,0,none⟩=some (.string text)):=Lib.hid (fun X hX=>by
  obtain⟨q0,q1,q2⟩:=hHeld
  exact⟨(hX.cell (zaa q0)).trans q0,(hX.cell (zaa q1)).trans q1,(hX.cell (zaa q2)).trans q2⟩)
 have HSU0:=Lib.hid (Below.refl w0.heap.size w0)
 clear hw0 hz0 x0 x1 x2 hb0
 refine rgT 0 ?_
 try simp only[rgS]
 refine rgT 2 ?_
 try simp only[rgS]
 refine rgT 4 ?_
 try simp only[rgS]
 refine rgT 6 ?_
 try simp only[rgS]
 refine rgT 8 ?_
 try simp only[rgS]
 refine rgT 10 ?_
 try simp only[rgS]
 refine rgT 12 ?_
 try simp only[rgS]
 refine rgT 14 ?_
 try simp only[rgS]
 refine rgT 16 ?_
 try simp only[rgS]
 refine rgO 1 (fun K hK=> ?_)
 go_simp
 go_at_call 20
 refine(zic A n c w0).mono ?_
 rintro e w1 ⟨rfl,hc1,hz1,hb⟩
 have HB1:=Lib.hid hb
 have HC1:=Lib.hid hc1
 have HZ1:=Lib.hid hz1
 clear hc1 hz1
 have HSU1:=Lib.hid (HSU0.out.trans (hb.mono HSU0.out.size))
 refine hK.out _ _ (HSS.out _ HSU1.out) (fun hH1=> ?_)
 clear hK K hb
 try simp only[rgS]
 refine rgO 3 (fun K hK=> ?_)
 go_simp
 go_at_call 21
 refine(mustName_at kind w1 (w0.heap.size+1) HZ1.out).mono ?_
 rintro e w2 ⟨rfl,hk2,hu2,hz2,hb⟩
 have HB2:=Lib.hid hb
 have HK2:=Lib.hid hk2
 have HU2:=Lib.hid hu2
 have HZ2:=Lib.hid hz2
 clear hk2 hu2 hz2
 have HSU2:=Lib.hid (HSU1.out.trans (hb.mono HSU1.out.size))
 refine hK.out _ _ (HSS.out _ HSU2.out) (fun hH2=> ?_)
 clear hK K hb
 try simp only[rgS]
 refine rgO 5 (fun K hK=> ?_)
 go_simp
 go_at_call 22
 refine(mustShort_at text w2 (w0.heap.size+5) HZ2.out).mono ?_
 rintro e w3 ⟨rfl,hk3,hu3,hz3,hb⟩
 have HB3:=Lib.hid hb
 have HK3:=Lib.hid hk3
 have HU3:=Lib.hid hu3
 have HZ3:=Lib.hid hz3
 clear hk3 hu3 hz3
 have HSU3:=Lib.hid (HSU2.out.trans (hb.mono HSU2.out.size))
 refine hK.out _ _ (HSS.out _ HSU3.out) (fun hH3=> ?_)
 clear hK K hb
 try simp only[rgS]
 have HTH3:Hid (Three w0 w3 A n c kind text):=Lib.hid (three_of HB1.out (by have:=HB2.out;rwa [HZ1.out]at this) (by have:=HB3.out;rwa [HZ2.out]at this) HC1.out HK2.out HU2.out HK3.out HU3.out)
 clear HC1 HK2 HU2 HK3 HU3
 refine rgO 7 (fun K hK=> ?_)
 go_simp
 go_at_call 28
 refine(zeh 80 ⟨#[110,111,116,32,116,104,114,101,101,32,112,97,114,116,115,32,111,102,32,98,97,115,101,54,52,117,114,108]⟩ 29 #[] #[.pointer (some ⟨w.heap.size+3,0,none⟩),.pointer (some ⟨w.heap.size+2,0,none⟩)] w3 (w0.heap.size+9) HZ3.out).mono ?_
 rintro e w4 ⟨rfl,hu,hz,hb⟩
 have HB4:=Lib.hid hb
 have HU4:=Lib.hid hu
 have HZ4:=Lib.hid hz
 clear hu hz
 have HSU4:=Lib.hid (HSU3.out.trans (hb.mono HSU3.out.size))
 refine hK.out _ _ (HSS.out _ HSU4.out) (fun hH4=> ?_)
 clear hK K hb
 try simp only[rgS]
 refine rgO 9 (fun K hK=> ?_)
 go_simp
 go_at_call 28
 refine(zeh 81 ⟨#[97,32,104,101,97,100,101,114,32,111,102,32,97,110,111,116,104,101,114,32,102,111,114,109]⟩ 31 #[.pointer (some ⟨w.heap.size+3,0,none⟩)] #[] w4 (w0.heap.size+12) HZ4.out).mono ?_
 rintro e w5 ⟨rfl,hu,hz,hb⟩
 have HB5:=Lib.hid hb
 have HU5:=Lib.hid hu
 have HZ5:=Lib.hid hz
 clear hu hz
 have HSU5:=Lib.hid (HSU4.out.trans (hb.mono HSU4.out.size))
 refine hK.out _ _ (HSS.out _ HSU5.out) (fun hH5=> ?_)
 clear hK K hb
 try simp only[rgS]
 refine rgO 11 (fun K hK=> ?_)
 go_simp
 go_at_call 28
 refine(zeh 82 ⟨#[97,110,111,116,104,101,114,32,97,108,103,111,114,105,116,104,109]⟩ 32 #[] #[.pointer (some ⟨w.heap.size+3,0,none⟩)] w5 (w0.heap.size+15) HZ5.out).mono ?_
 rintro e w6 ⟨rfl,hu,hz,hb⟩
 have HB6:=Lib.hid hb
 have HU6:=Lib.hid hu
 have HZ6:=Lib.hid hz
 clear hu hz
 have HSU6:=Lib.hid (HSU5.out.trans (hb.mono HSU5.out.size))
 refine hK.out _ _ (HSS.out _ HSU6.out) (fun hH6=> ?_)
 clear hK K hb
 try simp only[rgS]
 refine rgO 13 (fun K hK=> ?_)
 go_simp
 go_at_call 28
 refine(zeh 81 ⟨#[97,110,111,116,104,101,114,32,107,105,110,100]⟩ 34 #[] #[.pointer (some ⟨w.heap.size+3,0,none⟩),.pointer (some ⟨w.heap.size+1,0,none⟩)] w6 (w0.heap.size+18) HZ6.out).mono ?_
 rintro e w7 ⟨rfl,hu,hz,hb⟩
 have HB7:=Lib.hid hb
 have HU7:=Lib.hid hu
 have HZ7:=Lib.hid hz
 clear hu hz
 have HSU7:=Lib.hid (HSU6.out.trans (hb.mono HSU6.out.size))
 refine hK.out _ _ (HSS.out _ HSU7.out) (fun hH7=> ?_)
 clear hK K hb
 try simp only[rgS]
 refine rgO 15 (fun K hK=> ?_)
 go_simp
 go_at_call 28
 refine(zeh 83 ⟨#[110,111,32,107,101,121,32,111,102,32,116,104,97,116,32,110,97,109,101]⟩ 35 #[] #[.pointer (some ⟨w.heap.size+3,0,none⟩),.pointer (some ⟨w.heap.size,0,none⟩)] w7 (w0.heap.size+21) HZ7.out).mono ?_
 rintro e w8 ⟨rfl,hu,hz,hb⟩
 have HB8:=Lib.hid hb
 have HU8:=Lib.hid hu
 have HZ8:=Lib.hid hz
 clear hu hz
 have HSU8:=Lib.hid (HSU7.out.trans (hb.mono HSU7.out.size))
 refine hK.out _ _ (HSS.out _ HSU8.out) (fun hH8=> ?_)
 clear hK K hb
 try simp only[rgS]
 refine rgO 17 (fun K hK=> ?_)
 go_simp
 go_at_call 28
 refine(zeh 84 ⟨#[97,110,111,116,104,101,114,32,116,97,103]⟩ 37 #[.pointer (some ⟨w.heap.size+3,0,none⟩)] #[] w8 (w0.heap.size+24) HZ8.out).mono ?_
 rintro e w9 ⟨rfl,hu,hz,hb⟩
 have HB9:=Lib.hid hb
 have HU9:=Lib.hid hu
 have HZ9:=Lib.hid hz
 clear hu hz
 have HSU9:=Lib.hid (HSU8.out.trans (hb.mono HSU8.out.size))
 refine hK.out _ _ (HSS.out _ HSU9.out) (fun hH9=> ?_)
 clear hK K hb
 try simp only[rgS]
 have hcs:=HSS.out _ HSU9.out
 have hob9:Blk w9 (w.heap.size+3) 65 initO:=HOB.out.below HSU9.out (by have:=HZ0.out;omega)
 have HVL:Hid (VLay w9 (w.heap.size+3) w0.heap.size A n c kind text):=Lib.hid ⟨by have:=HZ0.out;omega,⟨w.heap.size,by omega,hcs.1,(HU8.out.below HB9.out)⟩,⟨w.heap.size+1,by omega,hcs.2.1,((HU7.out.below HB8.out).below HB9.out)⟩,⟨w.heap.size+2,by omega,hcs.2.2,(((((HU4.out.below HB5.out).below HB6.out).below HB7.out).below HB8.out).below HB9.out)⟩,((((HU5.out.below HB6.out).below HB7.out).below HB8.out).below HB9.out),(((HU6.out.below HB7.out).below HB8.out).below HB9.out),HU9.out⟩
 have HT9:=Lib.hid (show Three w0 w9 A n c kind text from((((((HTH3.out.below HB4.out).below HB5.out).below HB6.out).below HB7.out).below HB8.out).below HB9.out))
 have HB09:Hid (Below w.heap.size w w9):=Lib.hid (HBA.out.trans (HSU9.out.mono HBA.out.size))
 have HGR:=Lib.hid (fun(W:World) (hg:w9.grownBy W (some (w.heap.size+3)))=>HB09.out.grown hg HB09.out.size (fun b e=>by injection e with e;omega))
 have HF:=Lib.hid (ver_first ks A n c kind text (w.heap.size+3) w0.heap.size w0 w9 rfl HT9.out HVL.out hob9 HN.out hn9 hnc HK.out (fun W hg=>HA.out.below (HGR.out W hg)) (fun W hg=>HR.out.below (HGR.out W hg)))
 clear hcs hob9 HVL HT9 HU4 HU5 HU6 HU7 HU8 HU9 HTH3 HB1 HB2 HB3 HB4 HB5 HB6 HB7 HB8 HOB
 refine rgO 18 (fun K hK=> ?_)
 go_simp
 refine hK.out _ _ (HSS.out _ (HSU9.out.trans ((zad w9 _).mono HSU9.out.size))) (fun hH10=> ?_)
 clear hK K
 try simp only[rgS]
 refine rgO 19 (fun K hK=> ?_)
 go_simp
 go_at_call 19
 refine HF.out.mono ?_
 rintro e w10 ⟨hg,h⟩
 have HB10:=Lib.hid (HGR.out _ hg)
 have HG10:=Lib.hid hg
 have HH:=Lib.hid h
 have hs10:w10.cell? ⟨w.heap.size,0,none⟩=some (.slice A n c)∧w10.cell? ⟨w.heap.size+1,0,none⟩=some (.string kind)∧w10.cell? ⟨w.heap.size+2,0,none⟩=some (.string text):=by
  have hcs:=HSS.out _ HSU9.out
  exact⟨hg.cell hcs.1 (fun e=>by injection e with e;exact absurd e (by show ¬w.heap.size=_;omega)),hg.cell hcs.2.1 (fun e=>by injection e with e;exact absurd e (by show ¬w.heap.size+1=_;omega)),hg.cell hcs.2.2 (fun e=>by injection e with e;exact absurd e (by show ¬w.heap.size+2=_;omega))⟩
 clear hg h
 rcases HH.out with⟨rfl,hv⟩|⟨d,x,m,rfl,hm,hver,herr⟩
 case inr=>
  have HV:=Lib.hid (And.intro hver herr)
  clear hver herr HH
  refine hK.out _ _ hs10 (fun hH11=> ?_)
  clear hK K
  try simp only[rgS]
  refine rgT 20 ?_
  try simp only[rgS]
  refine wpAnyH_done (by kernel_rfl) ?_ _
  go_wp2
  refine bodyPost_ret (v:= .tuple #[.string ⟨#[]⟩,.string ⟨#[]⟩,.iface d x]) (by simp[results,Tryz.results14,go_sem]) rfl ⟨⟨#[]⟩,⟨#[]⟩,.iface d x,rfl,by rw[HV.out.1];rfl,by rw[HV.out.1];rfl,by rw[HV.out.1];exact HV.out.2,HB10.out⟩
 case inl=>
  have HV:=Lib.hid hv
  clear hv HH
  refine hK.out _ _ hs10 (fun hH11=> ?_)
  clear hK K
  try simp only[rgS]
  refine rgT 20 ?_
  try simp only[rgS]
  refine wpAnyH_done (by kernel_rfl) ?_ _
  obtain⟨hok,a,b,c',hcut,bodyS,v1,v2,v3,h0,h1,h2,h3,h4,k0,k1,g1,g2,g3,g4,g5,g6,g7⟩:=HV.out
  obtain⟨k,hfind,rfl,rfl,hmac⟩:=g7 (by decide)
  have HVM:Hid (verM ks kind text=(decL b,strL k.1,0)):=Lib.hid (by
   rw[zcJ hok,hcut]
   show verP ks kind a b c'=_
   unfold verP
   rw[if_neg (by rw[g4];decide),if_neg (by rw[g5 (by decide)];decide),if_neg (by rw[g6 (by decide)];decide),hfind]
   show(if macL (strL k.2) (a++46::b)=decL c' then _ else _)=_
   rw[if_pos (hmac (by decide))])
  obtain⟨d1,d2⟩:=zke (p:=b) hcut (by simp) (by rw[zaQ];exact hok.2.2 (by decide))
  obtain⟨A2,c2,rfl,hcap,hsrc⟩:=g1.2.2.1
  have hkz:=(HK.out k (List.mem_of_find?_eq_some hfind)).1
  have hks:=(zbl (hok.1 (by decide))).2.2 k (List.mem_of_find?_eq_some hfind)
  have hksz:=zcW hks.1
  have HCL:=Lib.hid (fun W=>zht k.1 W (by omega))
  have y2:w10.cell? ⟨w.heap.size+3,2,none⟩=some (.slice A2 (decL b).length c2):=g2.cell 2
  have y9:w10.cell? ⟨w.heap.size+3,9,none⟩=some (.string k.1):=g2.cell 9
  have hlie:Lies w10 A2 (decL b):=Lies.of hsrc
  have HST:Hid (strL (toS (decL b))=decL b):=Lib.hid (zcb d1)
  have HBY:=Lib.hid d1
  obtain⟨D,hD⟩: ∃D,D=decL b:=⟨_,rfl⟩
  rw[←hD]at y2 hlie HST HVM HBY
  obtain⟨m,hm⟩: ∃m,m=D.length:=⟨_,rfl⟩
  rw[←hm]at y2
  have HM:=Lib.hid hm
  have HKEEP:Hid (∀X,Below w10.heap.size w10 X→Lies X A2 D∧X.cell? ⟨w.heap.size+3,2,none⟩=some (.slice A2 m c2)∧X.cell? ⟨w.heap.size+3,9,none⟩=some (.string k.1)):=Lib.hid (fun X hX=>⟨hlie.below hX,(hX.cell (zaa y2)).trans y2,(hX.cell (zaa y9)).trans y9⟩)
  clear hD hm HV hok hcut g1 g2 g3 g4 g5 g6 g7 hfind hmac d1 d2 hcap hsrc hkz hks hksz y2 y9 hlie
  go_wp2_with fail
  refine wp_region_held_drew (S:=fun X=>Lies X A2 D∧X.cell? ⟨w.heap.size+3,2,none⟩=some (.slice A2 m c2)∧X.cell? ⟨w.heap.size+3,9,none⟩=some (.string k.1)) (by kernel_rfl) (HKEEP.out _ (Below.refl _ _).drew) (fun hHeld=> ?_)
  refine rgT 0 ?_
  try simp only[rgS]
  refine rgT 1 ?_
  try simp only[rgS]
  refine rgT 2 ?_
  try simp only[rgS]
  refine rgT 3 ?_ (hy:=by
   intro X hX
   have hcv:=zdo A2 D m c2 X HM.out.symm hX.1
   first|(go_simp;done)|(go_simp;with_reducible rfl))
  try simp only[rgS]
  refine rgT 4 ?_
  try simp only[rgS]
  refine rgT 5 ?_
  try simp only[rgS]
  refine rgT 6 ?_
  try simp only[rgS]
  refine rgO 7 (fun K hK=> ?_)
  go_simp
  go_at_call 38
  refine(HCL.out _).mono ?_
  rintro e w11 ⟨rfl,hb⟩
  have HB11:=Lib.hid ((Below.refl w10.heap.size w10).drew.trans (hb.mono (Below.refl w10.heap.size w10).drew.size))
  refine hK.out _ _ (HKEEP.out _ HB11.out) (fun hH12=> ?_)
  clear hK K hb hHeld
  try simp only[rgS]
  refine rgT 8 ?_
  try simp only[rgS]
  refine rgT 9 ?_
  try simp only[rgS]
  refine rgT 10 ?_
  try simp only[rgS]
  refine wpAnyH_done (by kernel_rfl) ?_ _
  go_wp2
  refine bodyPost_ret (v:= .tuple #[.string (toS D),.string k.1,.nilIface]) (by simp[results,Tryz.results14,go_sem]) rfl ⟨toS D,k.1,.nilIface,rfl,by rw[HVM.out];exact HST.out,by rw[HVM.out],by rw[HVM.out];exact .inl ⟨rfl,rfl⟩,HB10.out.trans (HB11.out.mono HB10.out.size)⟩
theorem refMake_any (kid sec header payload:ByteArray) (w:World) (hs:sec.size≤5000) (hh:header.size≤5000) (hp:payload.size≤6000):
  Calls Tryz.prog 17 #[.agg #[.string kid,.string sec],.string header,.string payload] w fun e w'=> ∃t,strL t=zdJ (strL sec) (strL header) (strL payload)∧e= .returned (.string t)∧Below w.heap.size w w':=by
 have HE1:=Lib.hid (fun W:World=>zfZ header W (by omega))
 have HE2:=Lib.hid (fun W:World=>zfZ payload W (by omega))
 have z1:=zmq header
 have z2:=zmq payload
 have t1:=zir header
 have t2:=zir payload
 obtain⟨a,ha⟩: ∃a,a=txt header:=⟨_,rfl⟩
 obtain⟨b,hb⟩: ∃b,b=txt payload:=⟨_,rfl⟩
 rw[←ha]at HE1 z1 t1
 rw[←hb]at HE2 z2 t2
 have e1:a.size+(⟨#[46]⟩:ByteArray).size≤9223372036854775807:=by show a.size+1≤_;omega
 have e2:(a++⟨#[46]⟩:ByteArray).size+b.size≤9223372036854775807:=by rw[ByteArray.size_append];show a.size+1+b.size≤_;omega
 obtain⟨B,hB⟩: ∃B:ByteArray,B=a++⟨#[46]⟩++b:=⟨_,rfl⟩
 have sB:strL B=zeW (strL header) (strL payload):=by rw[hB,zez,zez,t1,t2];unfold zeW;simp[strL]
 have zB:B.size≤16000:=by rw[hB,ByteArray.size_append,ByteArray.size_append];show a.size+1+b.size≤_;omega
 have HM:=Lib.hid (fun W:World=>refMac_any sec B W hs (by omega))
 have zD:(macL (strL sec) (strL B)).length=32:=zap _
 have bD:Bytes (macL (strL sec) (strL B)):=zbv _
 obtain⟨D,hD⟩: ∃D,D=macL (strL sec) (strL B):=⟨_,rfl⟩
 rw[←hD]at HM zD bD
 have sT:=zcv bD
 have zT:(txtD D).size=32:=by rw[←zaQ,sT,zD]
 obtain⟨d,hd⟩: ∃d,d=txtD D:=⟨_,rfl⟩
 rw[←hd]at HM sT zT
 have HE3:=Lib.hid (fun W:World=>zfZ d W (by omega))
 have z3:=zmq d
 have t3:=zir d
 obtain⟨c,hc⟩: ∃c,c=txt d:=⟨_,rfl⟩
 rw[←hc]at HE3 z3 t3
 have e3:B.size+(⟨#[46]⟩:ByteArray).size≤9223372036854775807:=by show B.size+1≤_;omega
 have e4:(B++⟨#[46]⟩:ByteArray).size+c.size≤9223372036854775807:=by rw[ByteArray.size_append];show B.size+1+c.size≤_;omega
 have HR:Hid (strL (B++⟨#[46]⟩++c)=zdJ (strL sec) (strL header) (strL payload)):=Lib.hid (by
  rw[zez,zez,t3,sT,hD,sB];unfold zdJ;simp[strL])
 subst hB
 have HB0:=Lib.hid (zad w (.cells #[.string kid,.string sec] 41))
 have x1:(w.alloc (.cells #[.string kid,.string sec] 41)).cell? ⟨w.heap.size,1,none⟩=some (.string sec):=by simp
 have hlt:=zaa x1
 clear ha hb sB zB hD zD bD hd hc sT zT z1 z2 z3 t1 t2 t3
 go_enter Tryz.func17,Tryz.ntmps17
 go_wp2_with(first
  |(go_at_call 44;(with_reducible refine(HE1.out _).mono ?_);rintro e w1 ⟨rfl,hb⟩;have y1:=(hb.cell (p:=⟨w.heap.size,1,none⟩) hlt).trans x1;have HB1:=Lib.hid (HB0.out.trans (hb.mono HB0.out.size));clear hb x1 HE1)
  |(go_at_call 44;(with_reducible refine(HE2.out _).mono ?_);rintro e w2 ⟨rfl,hb⟩;have y2:=(hb.cell (p:=⟨w.heap.size,1,none⟩) (zaa y1)).trans y1;have HB2:=Lib.hid (HB1.out.trans (hb.mono HB1.out.size));clear hb y1 HE2)
  |(go_at_call 43;fail))
 refine(HM.out _).mono ?_
 rintro e w3 ⟨rfl,hb⟩
 have HB3:=Lib.hid (HB2.out.trans (hb.mono HB2.out.size))
 clear hb HM
 go_wp2_with(go_at_call 44;(with_reducible refine(HE3.out _).mono ?_);rintro e w4 ⟨rfl,hb⟩;have HB4:=Lib.hid (HB3.out.trans (hb.mono HB3.out.size));clear hb HE3)
 go_ret
 exact⟨_,HR.out,rfl,HB4.out⟩
end Go.Proofs.YtceddodfddlncaaGreatDoor
