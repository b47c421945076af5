
import Derived.Test.YtlcljphbldjieaaGreatDoorJw47
import Derived.Test.YtlcljphbldjieaaGreatDoorJw48
set_option maxRecDepth 100000
set_option maxHeartbeats 16000000
set_option linter.all false
namespace Go.Proofs.YtlcljphbldjieaaGreatDoor
open Go Go.RowKit
def VTells (ks:List KeyM) (kind text:ByteArray) (w:World) (e:Ending) (w':World):Prop:= ∃t u v,e= .returned (.tuple #[.string t,.string u,v])∧strL t=(verM ks kind text).1∧strL u=(verM ks kind text).2.1∧WErr (verM ks kind text).2.2 v w'∧Below w.heap.size w w'
theorem zeb (no:Int) (found:ByteArray) (q:Nat) (first caps:Array Value) (w:World) (b:Nat) (h:w.heap.size=b):Calls Tryz.prog 77 #[.int .i64 no,.string found,.func (.func q) first caps] w fun e w'=>e= .returned (unlV b)∧UnlAt w' b no found q first caps∧w'.heap.size=b+3∧Below w.heap.size w w':=by
 subst h;exact zhY no found q first caps w
theorem mustName_at (s:ByteArray) (w:World) (b:Nat) (h:w.heap.size=b):Calls Tryz.prog 71 #[.string s] w fun e w'=>e= .returned (unlV (b+1))∧w'.cell? ⟨b,0,none⟩=some (.string s)∧UnlAt w' (b+1) 1 wName 122 #[] #[.pointer (some ⟨b,0,none⟩)]∧w'.heap.size=b+4∧Below w.heap.size w w':=by
 subst h;exact zhz s w
theorem mustShort_at (s:ByteArray) (w:World) (b:Nat) (h:w.heap.size=b):Calls Tryz.prog 72 #[.string s] w fun e w'=>e= .returned (unlV (b+1))∧w'.cell? ⟨b,0,none⟩=some (.string s)∧UnlAt w' (b+1) 2 zfz 124 #[] #[.pointer (some ⟨b,0,none⟩)]∧w'.heap.size=b+4∧Below w.heap.size w w':=by
 subst h;exact zet s w
theorem Three.below {w w4 w5:World} {A:Option Addr} {n c:Nat} {kind text:ByteArray} (h:Three w w4 A n c kind text) (hb:Below w4.heap.size w4 w5):Three w w5 A n c kind text:=
 ⟨h.bel.trans (hb.mono h.bel.size),(hb.cell (zab h.ring)).trans h.ring,(hb.cell (zab h.kd)).trans h.kd,h.un.below hb,(hb.cell (zab h.tx)).trans h.tx,h.us.below hb⟩
theorem Verify_any (ks:List KeyM) (A:Option Addr) (n c:Nat) (kind text:ByteArray) (w:World) (hn:ks.length=n) (hn9:n≤9223372036854775807) (hnc:n≤c) (hk:KeyOk ks) (hr:RingAt w A ks) (ha:Ask8 w):
  Calls Tryz.prog 42 #[.slice A n c,.string kind,.string text] w (VTells ks kind text w):=by
 have hmf: ∀(fn:Fn) (first cap:Array Value) (w:World),(Instr.makeFunc fn first cap).run Tryz.prog w= .ok (.func fn first cap) w:=fun _ _ _ _=>rfl
 have HA:=Lib.hid ha
 have HR:=Lib.hid hr
 have HN:=Lib.hid hn
 have HK:=Lib.hid hk
 clear ha hr hn hk
 go_enter Tryz.func42,Tryz.ntmps42
 go_wp2_with fail
 obtain⟨wA,hwA⟩: ∃W,W=((((w.alloc (.cells #[.slice A n c] 58)).alloc (.cells #[.string kind] 9)).alloc (.cells #[.string text] 9)).alloc (.cells #[.string ⟨#[]⟩,.slice none 0 0,.slice none 0 0,.slice none 0 0,.int .i64 0,.int .i64 0,.string ⟨#[]⟩,.slice none 0 0,.slice none 0 0,.string ⟨#[]⟩,.string ⟨#[]⟩] 122)):=⟨_,rfl⟩
 rw[←hwA]
 have HBA:Hid (Below w.heap.size w wA.drew):=Lib.hid (by rw[hwA];exact(((((Below.refl _ _).alloc (Nat.le_refl _) _).alloc (by simp) _).alloc (by first|(simp;done)|(simp;omega)) _).alloc (by first|(simp;done)|(simp;omega)) _).drew)
 have hz0:wA.heap.size=w.heap.size+4:=by rw[hwA];simp
 have x0:wA.cell? ⟨w.heap.size,0,none⟩=some (.slice A n c):=by rw[hwA,World.cell?_alloc_lt _ _ ⟨w.heap.size,0,none⟩ (by first|(simp;done)|(simp;omega)),World.cell?_alloc_lt _ _ ⟨w.heap.size,0,none⟩ (by first|(simp;done)|(simp;omega)),World.cell?_alloc_lt _ _ ⟨w.heap.size,0,none⟩ (by simp)];simp
 have x1:wA.cell? ⟨w.heap.size+1,0,none⟩=some (.string kind):=by rw[hwA,World.cell?_alloc_lt _ _ ⟨w.heap.size+1,0,none⟩ (by first|(simp;done)|(simp;omega)),World.cell?_alloc_lt _ _ ⟨w.heap.size+1,0,none⟩ (by first|(simp;done)|(simp;omega))];simp
 have x2:wA.cell? ⟨w.heap.size+2,0,none⟩=some (.string text):=by rw[hwA,World.cell?_alloc_lt _ _ ⟨w.heap.size+2,0,none⟩ (by simp)];simp[World.cell?_alloc_at]
 have hb0:Blk wA (w.heap.size+3) 122 initO:=by rw[hwA];exact zci _ (by simp) initO _
 clear hwA
 refine wp_region_held_drew (S:=fun X=>X.cell? ⟨w.heap.size,0,none⟩=some (.slice A n c)∧X.cell? ⟨w.heap.size+1,0,none⟩=some (.string kind)∧X.cell? ⟨w.heap.size+2,0,none⟩=some (.string text)) (by kernel_rfl) ⟨x0,x1,x2⟩ (fun hHeld=> ?_)
 obtain⟨w0,hw0⟩: ∃W,W=wA.drew:=⟨_,rfl⟩
 rw[←hw0]at HBA hHeld⊢
 have HZ0:Hid (w0.heap.size=w.heap.size+4):=Lib.hid (by rw[hw0];exact hz0)
 have HOB:Hid (Blk w0 (w.heap.size+3) 122 initO):=Lib.hid (by rw[hw0];exact hb0.drew)
 have HSS:Hid (∀X,Below w0.heap.size w0 X→X.cell? ⟨w.heap.size,0,none⟩=some (.slice A n c)∧X.cell? ⟨w.heap.size+1,0,none⟩=some (.string kind)∧X.cell? ⟨w.heap.size+2,0,none⟩=some (.string text)):=Lib.hid (fun X hX=>by
  obtain⟨q0,q1,q2⟩:=hHeld
  exact⟨(hX.cell (zab q0)).trans q0,(hX.cell (zab q1)).trans q1,(hX.cell (zab q2)).trans q2⟩)
 have HSU0:=Lib.hid (Below.refl w0.heap.size w0)
 clear hw0 hz0 x0 x1 x2 hb0
 refine rgT 0 ?_
 try simp only[rgS]
 refine rgT 2 ?_
 try simp only[rgS]
 refine rgT 4 ?_
 try simp only[rgS]
 refine rgT 6 ?_
 try simp only[rgS]
 refine rgT 8 ?_
 try simp only[rgS]
 refine rgT 10 ?_
 try simp only[rgS]
 refine rgT 12 ?_
 try simp only[rgS]
 refine rgT 14 ?_
 try simp only[rgS]
 refine rgT 16 ?_
 try simp only[rgS]
 refine rgO 1 (fun K hK=> ?_)
 go_simp
 go_at_call 70
 refine(zhy A n c w0).mono ?_
 rintro e w1 ⟨rfl,hc1,hz1,hb⟩
 have HB1:=Lib.hid hb
 have HC1:=Lib.hid hc1
 have HZ1:=Lib.hid hz1
 clear hc1 hz1
 have HSU1:=Lib.hid (HSU0.out.trans (hb.mono HSU0.out.size))
 refine hK.out _ _ (HSS.out _ HSU1.out) (fun hH1=> ?_)
 clear hK K hb
 try simp only[rgS]
 refine rgO 3 (fun K hK=> ?_)
 go_simp
 go_at_call 71
 refine(mustName_at kind w1 (w0.heap.size+1) HZ1.out).mono ?_
 rintro e w2 ⟨rfl,hk2,hu2,hz2,hb⟩
 have HB2:=Lib.hid hb
 have HK2:=Lib.hid hk2
 have HU2:=Lib.hid hu2
 have HZ2:=Lib.hid hz2
 clear hk2 hu2 hz2
 have HSU2:=Lib.hid (HSU1.out.trans (hb.mono HSU1.out.size))
 refine hK.out _ _ (HSS.out _ HSU2.out) (fun hH2=> ?_)
 clear hK K hb
 try simp only[rgS]
 refine rgO 5 (fun K hK=> ?_)
 go_simp
 go_at_call 72
 refine(mustShort_at text w2 (w0.heap.size+5) HZ2.out).mono ?_
 rintro e w3 ⟨rfl,hk3,hu3,hz3,hb⟩
 have HB3:=Lib.hid hb
 have HK3:=Lib.hid hk3
 have HU3:=Lib.hid hu3
 have HZ3:=Lib.hid hz3
 clear hk3 hu3 hz3
 have HSU3:=Lib.hid (HSU2.out.trans (hb.mono HSU2.out.size))
 refine hK.out _ _ (HSS.out _ HSU3.out) (fun hH3=> ?_)
 clear hK K hb
 try simp only[rgS]
 have HTH3:Hid (Three w0 w3 A n c kind text):=Lib.hid (three_of HB1.out (by have:=HB2.out;rwa [HZ1.out]at this) (by have:=HB3.out;rwa [HZ2.out]at this) HC1.out HK2.out HU2.out HK3.out HU3.out)
 clear HC1 HK2 HU2 HK3 HU3
 refine rgO 7 (fun K hK=> ?_)
 go_simp
 go_at_call 77
 refine(zeb 80 ⟨#[110,111,116,32,116,104,114,101,101,32,112,97,114,116,115,32,111,102,32,98,97,115,101,54,52,117,114,108]⟩ 78 #[] #[.pointer (some ⟨w.heap.size+3,0,none⟩),.pointer (some ⟨w.heap.size+2,0,none⟩)] w3 (w0.heap.size+9) HZ3.out).mono ?_
 rintro e w4 ⟨rfl,hu,hz,hb⟩
 have HB4:=Lib.hid hb
 have HU4:=Lib.hid hu
 have HZ4:=Lib.hid hz
 clear hu hz
 have HSU4:=Lib.hid (HSU3.out.trans (hb.mono HSU3.out.size))
 refine hK.out _ _ (HSS.out _ HSU4.out) (fun hH4=> ?_)
 clear hK K hb
 try simp only[rgS]
 refine rgO 9 (fun K hK=> ?_)
 go_simp
 go_at_call 77
 refine(zeb 81 ⟨#[97,32,104,101,97,100,101,114,32,111,102,32,97,110,111,116,104,101,114,32,102,111,114,109]⟩ 80 #[.pointer (some ⟨w.heap.size+3,0,none⟩)] #[] w4 (w0.heap.size+12) HZ4.out).mono ?_
 rintro e w5 ⟨rfl,hu,hz,hb⟩
 have HB5:=Lib.hid hb
 have HU5:=Lib.hid hu
 have HZ5:=Lib.hid hz
 clear hu hz
 have HSU5:=Lib.hid (HSU4.out.trans (hb.mono HSU4.out.size))
 refine hK.out _ _ (HSS.out _ HSU5.out) (fun hH5=> ?_)
 clear hK K hb
 try simp only[rgS]
 refine rgO 11 (fun K hK=> ?_)
 go_simp
 go_at_call 77
 refine(zeb 82 ⟨#[97,110,111,116,104,101,114,32,97,108,103,111,114,105,116,104,109]⟩ 81 #[] #[.pointer (some ⟨w.heap.size+3,0,none⟩)] w5 (w0.heap.size+15) HZ5.out).mono ?_
 rintro e w6 ⟨rfl,hu,hz,hb⟩
 have HB6:=Lib.hid hb
 have HU6:=Lib.hid hu
 have HZ6:=Lib.hid hz
 clear hu hz
 have HSU6:=Lib.hid (HSU5.out.trans (hb.mono HSU5.out.size))
 refine hK.out _ _ (HSS.out _ HSU6.out) (fun hH6=> ?_)
 clear hK K hb
 try simp only[rgS]
 refine rgO 13 (fun K hK=> ?_)
 go_simp
 go_at_call 77
 refine(zeb 81 ⟨#[97,110,111,116,104,101,114,32,107,105,110,100]⟩ 83 #[] #[.pointer (some ⟨w.heap.size+3,0,none⟩),.pointer (some ⟨w.heap.size+1,0,none⟩)] w6 (w0.heap.size+18) HZ6.out).mono ?_
 rintro e w7 ⟨rfl,hu,hz,hb⟩
 have HB7:=Lib.hid hb
 have HU7:=Lib.hid hu
 have HZ7:=Lib.hid hz
 clear hu hz
 have HSU7:=Lib.hid (HSU6.out.trans (hb.mono HSU6.out.size))
 refine hK.out _ _ (HSS.out _ HSU7.out) (fun hH7=> ?_)
 clear hK K hb
 try simp only[rgS]
 refine rgO 15 (fun K hK=> ?_)
 go_simp
 go_at_call 77
 refine(zeb 83 ⟨#[110,111,32,107,101,121,32,111,102,32,116,104,97,116,32,110,97,109,101]⟩ 84 #[] #[.pointer (some ⟨w.heap.size+3,0,none⟩),.pointer (some ⟨w.heap.size,0,none⟩)] w7 (w0.heap.size+21) HZ7.out).mono ?_
 rintro e w8 ⟨rfl,hu,hz,hb⟩
 have HB8:=Lib.hid hb
 have HU8:=Lib.hid hu
 have HZ8:=Lib.hid hz
 clear hu hz
 have HSU8:=Lib.hid (HSU7.out.trans (hb.mono HSU7.out.size))
 refine hK.out _ _ (HSS.out _ HSU8.out) (fun hH8=> ?_)
 clear hK K hb
 try simp only[rgS]
 refine rgO 17 (fun K hK=> ?_)
 go_simp
 go_at_call 77
 refine(zeb 84 ⟨#[97,110,111,116,104,101,114,32,116,97,103]⟩ 86 #[.pointer (some ⟨w.heap.size+3,0,none⟩)] #[] w8 (w0.heap.size+24) HZ8.out).mono ?_
 rintro e w9 ⟨rfl,hu,hz,hb⟩
 have HB9:=Lib.hid hb
 have HU9:=Lib.hid hu
 have HZ9:=Lib.hid hz
 clear hu hz
 have HSU9:=Lib.hid (HSU8.out.trans (hb.mono HSU8.out.size))
 refine hK.out _ _ (HSS.out _ HSU9.out) (fun hH9=> ?_)
 clear hK K hb
 try simp only[rgS]
 have hcs:=HSS.out _ HSU9.out
 have hob9:Blk w9 (w.heap.size+3) 122 initO:=HOB.out.below HSU9.out (by have:=HZ0.out;omega)
 have HVL:Hid (VLay w9 (w.heap.size+3) w0.heap.size A n c kind text):=Lib.hid ⟨by have:=HZ0.out;omega,⟨w.heap.size,by omega,hcs.1,(HU8.out.below HB9.out)⟩,⟨w.heap.size+1,by omega,hcs.2.1,((HU7.out.below HB8.out).below HB9.out)⟩,⟨w.heap.size+2,by omega,hcs.2.2,(((((HU4.out.below HB5.out).below HB6.out).below HB7.out).below HB8.out).below HB9.out)⟩,((((HU5.out.below HB6.out).below HB7.out).below HB8.out).below HB9.out),(((HU6.out.below HB7.out).below HB8.out).below HB9.out),HU9.out⟩
 have HT9:=Lib.hid (show Three w0 w9 A n c kind text from((((((HTH3.out.below HB4.out).below HB5.out).below HB6.out).below HB7.out).below HB8.out).below HB9.out))
 have HB09:Hid (Below w.heap.size w w9):=Lib.hid (HBA.out.trans (HSU9.out.mono HBA.out.size))
 have HGR:=Lib.hid (fun(W:World) (hg:w9.grownBy W (some (w.heap.size+3)))=>HB09.out.grown hg HB09.out.size (fun b e=>by injection e with e;omega))
 have HF:=Lib.hid (ver_first ks A n c kind text (w.heap.size+3) w0.heap.size w0 w9 rfl HT9.out HVL.out hob9 HN.out hn9 hnc HK.out (fun W hg=>HA.out.below (HGR.out W hg)) (fun W hg=>HR.out.below (HGR.out W hg)))
 clear hcs hob9 HVL HT9 HU4 HU5 HU6 HU7 HU8 HU9 HTH3 HB1 HB2 HB3 HB4 HB5 HB6 HB7 HB8 HOB
 refine rgO 18 (fun K hK=> ?_)
 go_simp
 refine hK.out _ _ (HSS.out _ (HSU9.out.trans ((zad w9 _).mono HSU9.out.size))) (fun hH10=> ?_)
 clear hK K
 try simp only[rgS]
 refine rgO 19 (fun K hK=> ?_)
 go_simp
 go_at_call 69
 refine HF.out.mono ?_
 rintro e w10 ⟨hg,h⟩
 have HB10:=Lib.hid (HGR.out _ hg)
 have HG10:=Lib.hid hg
 have HH:=Lib.hid h
 have hs10:w10.cell? ⟨w.heap.size,0,none⟩=some (.slice A n c)∧w10.cell? ⟨w.heap.size+1,0,none⟩=some (.string kind)∧w10.cell? ⟨w.heap.size+2,0,none⟩=some (.string text):=by
  have hcs:=HSS.out _ HSU9.out
  exact⟨hg.cell hcs.1 (fun e=>by injection e with e;exact absurd e (by show ¬w.heap.size=_;omega)),hg.cell hcs.2.1 (fun e=>by injection e with e;exact absurd e (by show ¬w.heap.size+1=_;omega)),hg.cell hcs.2.2 (fun e=>by injection e with e;exact absurd e (by show ¬w.heap.size+2=_;omega))⟩
 clear hg h
 rcases HH.out with⟨rfl,hv⟩|⟨d,x,m,rfl,hm,hver,herr⟩
 case inr=>
  have HV:=Lib.hid (And.intro hver herr)
  clear hver herr HH
  refine hK.out _ _ hs10 (fun hH11=> ?_)
  clear hK K
  try simp only[rgS]
  refine rgT 20 ?_
  try simp only[rgS]
  refine wpAnyH_done (by kernel_rfl) ?_ _
  go_wp2
  refine bodyPost_ret (v:= .tuple #[.string ⟨#[]⟩,.string ⟨#[]⟩,.iface d x]) (by simp[results,Tryz.results42,go_sem]) rfl ⟨⟨#[]⟩,⟨#[]⟩,.iface d x,rfl,by rw[HV.out.1];rfl,by rw[HV.out.1];rfl,by rw[HV.out.1];exact HV.out.2,HB10.out⟩
 case inl=>
  have HV:=Lib.hid hv
  clear hv HH
  refine hK.out _ _ hs10 (fun hH11=> ?_)
  clear hK K
  try simp only[rgS]
  refine rgT 20 ?_
  try simp only[rgS]
  refine wpAnyH_done (by kernel_rfl) ?_ _
  obtain⟨hok,a,b,c',hcut,bodyS,v1,v2,v3,h0,h1,h2,h3,h4,k0,k1,g1,g2,g3,g4,g5,g6,g7⟩:=HV.out
  obtain⟨k,hfind,rfl,rfl,hmac⟩:=g7 (by decide)
  have HVM:Hid (verM ks kind text=(decL b,strL k.1,0)):=Lib.hid (by
   rw[zcr hok,hcut]
   show verP ks kind a b c'=_
   unfold verP
   rw[if_neg (by rw[g4];decide),if_neg (by rw[g5 (by decide)];decide),if_neg (by rw[g6 (by decide)];decide),hfind]
   show(if macL (strL k.2) (a++46::b)=decL c' then _ else _)=_
   rw[if_pos (hmac (by decide))])
  obtain⟨d1,d2⟩:=zkb (p:=b) hcut (by simp) (by rw[zaQ];exact hok.2.2 (by decide))
  obtain⟨A2,c2,rfl,hcap,hsrc⟩:=g1.2.2.1
  have hkz:=(HK.out k (List.mem_of_find?_eq_some hfind)).1
  have hks:=(zeg (hok.1 (by decide))).2.2 k (List.mem_of_find?_eq_some hfind)
  have hksz:=zcZ hks.1
  have HCL:=Lib.hid (fun W=>sclone_any k.1 W (by omega))
  have y2:w10.cell? ⟨w.heap.size+3,2,none⟩=some (.slice A2 (decL b).length c2):=g2.cell 2
  have y9:w10.cell? ⟨w.heap.size+3,9,none⟩=some (.string k.1):=g2.cell 9
  have hlie:Lies w10 A2 (decL b):=Lies.of hsrc
  have HST:Hid (strL (toS (decL b))=decL b):=Lib.hid (zbx d1)
  have HBY:=Lib.hid d1
  obtain⟨D,hD⟩: ∃D,D=decL b:=⟨_,rfl⟩
  rw[←hD]at y2 hlie HST HVM HBY
  obtain⟨m,hm⟩: ∃m,m=D.length:=⟨_,rfl⟩
  rw[←hm]at y2
  have HM:=Lib.hid hm
  have HKEEP:Hid (∀X,Below w10.heap.size w10 X→Lies X A2 D∧X.cell? ⟨w.heap.size+3,2,none⟩=some (.slice A2 m c2)∧X.cell? ⟨w.heap.size+3,9,none⟩=some (.string k.1)):=Lib.hid (fun X hX=>⟨hlie.below hX,(hX.cell (zab y2)).trans y2,(hX.cell (zab y9)).trans y9⟩)
  clear hD hm HV hok hcut g1 g2 g3 g4 g5 g6 g7 hfind hmac d1 d2 hcap hsrc hkz hks hksz y2 y9 hlie
  go_wp2_with fail
  refine wp_region_held_drew (S:=fun X=>Lies X A2 D∧X.cell? ⟨w.heap.size+3,2,none⟩=some (.slice A2 m c2)∧X.cell? ⟨w.heap.size+3,9,none⟩=some (.string k.1)) (by kernel_rfl) (HKEEP.out _ (Below.refl _ _).drew) (fun hHeld=> ?_)
  refine rgT 0 ?_
  try simp only[rgS]
  refine rgT 1 ?_
  try simp only[rgS]
  refine rgT 2 ?_
  try simp only[rgS]
  refine rgT 3 ?_ (hy:=by
   intro X hX
   have hcv:=zdj A2 D m c2 X HM.out.symm hX.1
   first|(go_simp;done)|(go_simp;with_reducible rfl))
  try simp only[rgS]
  refine rgT 4 ?_
  try simp only[rgS]
  refine rgT 5 ?_
  try simp only[rgS]
  refine rgT 6 ?_
  try simp only[rgS]
  refine rgO 7 (fun K hK=> ?_)
  go_simp
  go_at_call 87
  refine(HCL.out _).mono ?_
  rintro e w11 ⟨rfl,hb⟩
  have HB11:=Lib.hid ((Below.refl w10.heap.size w10).drew.trans (hb.mono (Below.refl w10.heap.size w10).drew.size))
  refine hK.out _ _ (HKEEP.out _ HB11.out) (fun hH12=> ?_)
  clear hK K hb hHeld
  try simp only[rgS]
  refine rgT 8 ?_
  try simp only[rgS]
  refine rgT 9 ?_
  try simp only[rgS]
  refine rgT 10 ?_
  try simp only[rgS]
  refine wpAnyH_done (by kernel_rfl) ?_ _
  go_wp2
  refine bodyPost_ret (v:= .tuple #[.string (toS D),.string k.1,.nilIface]) (by simp[results,Tryz.results42,go_sem]) rfl ⟨toS D,k.1,.nilIface,rfl,by rw[HVM.out];exact HST.out,by rw[HVM.out],by rw[HVM.out];exact .inl ⟨rfl,rfl⟩,HB10.out.trans (HB11.out.mono HB10.out.size)⟩
theorem zji (kid sec header payload:ByteArray) (w:World) (hs:sec.size≤5000) (hh:header.size≤5000) (hp:payload.size≤6000):
  Calls Tryz.prog 45 #[.agg #[.string kid,.string sec],.string header,.string payload] w fun e w'=> ∃t,strL t=zdp (strL sec) (strL header) (strL payload)∧e= .returned (.string t)∧Below w.heap.size w w':=by
 have HE1:=Lib.hid (fun W:World=>zes header W (by omega))
 have HE2:=Lib.hid (fun W:World=>zes payload W (by omega))
 have z1:=zmn header
 have z2:=zmn payload
 have t1:=zih header
 have t2:=zih payload
 obtain⟨a,ha⟩: ∃a,a=txt header:=⟨_,rfl⟩
 obtain⟨b,hb⟩: ∃b,b=txt payload:=⟨_,rfl⟩
 rw[←ha]at HE1 z1 t1
 rw[←hb]at HE2 z2 t2
 have e1:a.size+(⟨#[46]⟩:ByteArray).size≤9223372036854775807:=by show a.size+1≤_;omega
 have e2:(a++⟨#[46]⟩:ByteArray).size+b.size≤9223372036854775807:=by rw[ByteArray.size_append];show a.size+1+b.size≤_;omega
 obtain⟨B,hB⟩: ∃B:ByteArray,B=a++⟨#[46]⟩++b:=⟨_,rfl⟩
 have sB:strL B=zfW (strL header) (strL payload):=by rw[hB,zcb,zcb,t1,t2];unfold zfW;simp[strL]
 have zB:B.size≤16000:=by rw[hB,ByteArray.size_append,ByteArray.size_append];show a.size+1+b.size≤_;omega
 have HM:=Lib.hid (fun W:World=>refMac_any sec B W hs (by omega))
 have zD:(macL (strL sec) (strL B)).length=32:=zaq _
 have bD:Bytes (macL (strL sec) (strL B)):=zcX _
 obtain⟨D,hD⟩: ∃D,D=macL (strL sec) (strL B):=⟨_,rfl⟩
 rw[←hD]at HM zD bD
 have sT:=zcs bD
 have zT:(txtD D).size=32:=by rw[←zaQ,sT,zD]
 obtain⟨d,hd⟩: ∃d,d=txtD D:=⟨_,rfl⟩
 rw[←hd]at HM sT zT
 have HE3:=Lib.hid (fun W:World=>zes d W (by omega))
 have z3:=zmn d
 have t3:=zih d
 obtain⟨c,hc⟩: ∃c,c=txt d:=⟨_,rfl⟩
 rw[←hc]at HE3 z3 t3
 have e3:B.size+(⟨#[46]⟩:ByteArray).size≤9223372036854775807:=by show B.size+1≤_;omega
 have e4:(B++⟨#[46]⟩:ByteArray).size+c.size≤9223372036854775807:=by rw[ByteArray.size_append];show B.size+1+c.size≤_;omega
 have HR:Hid (strL (B++⟨#[46]⟩++c)=zdp (strL sec) (strL header) (strL payload)):=Lib.hid (by
  rw[zcb,zcb,t3,sT,hD,sB];unfold zdp;simp[strL])
 subst hB
 have HB0:=Lib.hid (zad w (.cells #[.string kid,.string sec] 71))
 have x1:(w.alloc (.cells #[.string kid,.string sec] 71)).cell? ⟨w.heap.size,1,none⟩=some (.string sec):=by simp
 have hlt:=zab x1
 clear ha hb sB zB hD zD bD hd hc sT zT z1 z2 z3 t1 t2 t3
 go_enter Tryz.func45,Tryz.ntmps45
 go_wp2_with(first
  |(go_at_call 91;(with_reducible refine(HE1.out _).mono ?_);rintro e w1 ⟨rfl,hb⟩;have y1:=(hb.cell (p:=⟨w.heap.size,1,none⟩) hlt).trans x1;have HB1:=Lib.hid (HB0.out.trans (hb.mono HB0.out.size));clear hb x1 HE1)
  |(go_at_call 91;(with_reducible refine(HE2.out _).mono ?_);rintro e w2 ⟨rfl,hb⟩;have y2:=(hb.cell (p:=⟨w.heap.size,1,none⟩) (zab y1)).trans y1;have HB2:=Lib.hid (HB1.out.trans (hb.mono HB1.out.size));clear hb y1 HE2)
  |(go_at_call 90;fail))
 refine(HM.out _).mono ?_
 rintro e w3 ⟨rfl,hb⟩
 have HB3:=Lib.hid (HB2.out.trans (hb.mono HB2.out.size))
 clear hb HM
 go_wp2_with(go_at_call 91;(with_reducible refine(HE3.out _).mono ?_);rintro e w4 ⟨rfl,hb⟩;have HB4:=Lib.hid (HB3.out.trans (hb.mono HB3.out.size));clear hb HE3)
 go_ret
 exact⟨_,HR.out,rfl,HB4.out⟩
theorem zmu (kid kind:ByteArray) (w:World) (hk:kid.size≤10000) (hd:kind.size≤10000):
  Calls Tryz.prog 74 #[.string kid,.string kind] w fun e w'=> ∃t,strL t=hdrL kid kind∧e= .returned (.string t)∧Below w.heap.size w w':=by
 have HQ1:=Lib.hid (fun W:World=>zhu kid W (by omega))
 have HQ2:=Lib.hid (fun W:World=>zhu kind W (by omega))
 have hql: ∀t:ByteArray,(zan (strL t)).length≤6*t.size+2:=fun t=>by
  have:=zil (strL t) (strL t).length
  rw[zan,List.length_append,List.length_singleton];rw[zaQ]at this⊢;omega
 have hqb: ∀t:ByteArray,Bytes (zan (strL t)):=fun t=>zjl t
 have z1:(toS (zan (strL kid))).size≤70000:=by rw[zcV];have:=hql kid;omega
 have z2:(toS (zan (strL kind))).size≤70000:=by rw[zcV];have:=hql kind;omega
 have s1:=zbx (hqb kid)
 have s2:=zbx (hqb kind)
 obtain⟨a,ha⟩: ∃a,a=toS (zan (strL kid)):=⟨_,rfl⟩
 obtain⟨b,hb⟩: ∃b,b=toS (zan (strL kind)):=⟨_,rfl⟩
 rw[←ha]at HQ1 z1 s1
 rw[←hb]at HQ2 z2 s2
 obtain⟨P,hP⟩: ∃P:ByteArray,P=⟨#[123,34,97,108,103,34,58,34,72,83,50,53,54,34,44,34,107,105,100,34,58]⟩:=⟨_,rfl⟩
 obtain⟨M,hM⟩: ∃M:ByteArray,M=⟨#[44,34,116,121,112,34,58]⟩:=⟨_,rfl⟩
 have zP:P.size=21:=by rw[hP];rfl
 have zM:M.size=7:=by rw[hM];rfl
 have e1:P.size+a.size≤9223372036854775807:=by omega
 have e2:(P++a).size+M.size≤9223372036854775807:=by rw[ByteArray.size_append];omega
 have e3:(P++a++M).size+b.size≤9223372036854775807:=by rw[ByteArray.size_append,ByteArray.size_append];omega
 have e4:(P++a++M++b).size+(⟨#[125]⟩:ByteArray).size≤9223372036854775807:=by rw[ByteArray.size_append,ByteArray.size_append,ByteArray.size_append];show _+1≤_;omega
 have HR:Hid (strL (P++a++M++b++⟨#[125]⟩)=hdrL kid kind):=Lib.hid (by
  rw[zcb,zcb,zcb,zcb,s1,s2,hP,hM];unfold hdrL tHead tTyp;simp[strL])
 rw[hP]at e1 e2 e3 e4 HR
 rw[hM]at e2 e3 e4 HR
 clear ha hb hP hM zP zM z1 z2 s1 s2 hql hqb
 go_enter Tryz.func74,Tryz.ntmps74
 go_wp2_with(first
  |(go_at_call 59;(with_reducible refine(HQ1.out _).mono ?_);rintro e w1 ⟨rfl,hb⟩;have HB1:=Lib.hid hb;clear hb HQ1)
  |(go_at_call 59;(with_reducible refine(HQ2.out _).mono ?_);rintro e w2 ⟨rfl,hb⟩;have HB2:=Lib.hid (HB1.out.trans (hb.mono HB1.out.size));clear hb HQ2))
 go_ret
 exact⟨_,HR.out,rfl,HB2.out⟩
def kOne:ByteArray:=⟨#[107,49]⟩
def kSec:ByteArray:=⟨#[115,101,99,114,101,116]⟩
def kAt:ByteArray:=⟨#[97,116]⟩
def kPay:ByteArray:=⟨#[123,125]⟩
def kNone:ByteArray:=⟨#[123,34,97,108,103,34,58,34,110,111,110,101,34,125]⟩
def kWant:ByteArray:=⟨#[101,121,74,104,98,71,99,105,79,105,74,73,85,122,73,49,78,105,73,115,73,109,116,112,90,67,73,54,73,109,115,120,73,105,119,105,100,72,108,119,73,106,111,105,89,88,81,105,102,81,46,101,51,48,46]⟩
abbrev aKs:List KeyM:=[(kOne,kSec)]
theorem a_ring:zcc aKs=true:=by decide+kernel
theorem a_name:zbe (strL kAt)=true∧zbe (strL kOne)=true:=by decide+kernel
theorem a_body:zfW (hdrL kOne kAt) (strL kPay)++[46]=strL kWant:=by decide+kernel
theorem a_none:zdd (strL kNone)=true∧sayB (zai (strL kNone)).1 sAlg sHS=false:=by decide+kernel
theorem a_sign:zfy (kOne,kSec) kAt kPay=strL kWant++encL (macL (strL kSec) (zfW (hdrL kOne kAt) (strL kPay))):=by
 unfold zfy zdp
 rw[←a_body];simp
theorem a_signM:zdq aKs kAt kPay=(zfy (kOne,kSec) kAt kPay,0):=by
 unfold zdq
 rw[if_neg (by rw[a_ring];decide),if_neg (by rw[a_name.1];decide),if_neg (by decide)]
 have hl:aKs.getLastD default=(kOne,kSec):=rfl
 have hz: ¬4096<(zfy (kOne,kSec) kAt kPay).length:=by
  rw[a_sign,List.length_append,zaQ,zba,znK]
  decide
 rw[hl,if_neg hz]
theorem a_ver {s:ByteArray} (hs:strL s=zfy (kOne,kSec) kAt kPay):verM aKs kAt s=(strL kPay,strL kOne,0):=by
 have hz:s.size≤4096:=by
  rw[←zaQ,hs,a_sign,List.length_append,zaQ,zba,znK];decide
 rw[zcr ⟨fun _=>a_ring,fun _=>a_name.1,fun _=>hz⟩,hs]
 unfold zfy
 rw[zmK (zhj _ _) (zbl _)]
 show verP aKs kAt _ _ _=_
 rw[verP_signed (k:=(kOne,kSec)) a_name.2 a_name.1 (zbl _),if_neg (by simp)]
 have hf:aKs.find? (fun q=>decide (kOne=q.1))=some (kOne,kSec):=by simp
 rw[show(fun q:KeyM=>decide ((kOne,kSec).1=q.1))=(fun q=>decide (kOne=q.1))from rfl,hf]
 show(if macL (strL kSec) (zfW (hdrL kOne kAt) (strL kPay))=macL (strL kSec) (zfW (hdrL kOne kAt) (strL kPay))then _ else _)=_
 rw[if_pos rfl]
theorem a_ver2 {s:ByteArray} (hs:strL s=zdp (strL kSec) (strL kNone) (strL kPay)):verM aKs kAt s=([],[],82):=by
 have hz:s.size≤4096:=by
  rw[←zaQ,hs]
  unfold zdp zfW
  simp only[List.length_append,List.length_cons,zba,znK,zaQ]
  decide
 rw[zcr ⟨fun _=>a_ring,fun _=>a_name.1,fun _=>hz⟩,hs,zmK (zbl _) (zbl _)]
 show verP aKs kAt _ _ _=_
 unfold verP
 rw[zfh _ (ziZ (zbl kNone)),if_neg (by rw[a_none.1];decide),if_pos a_none.2]
theorem a_key:KeyOk aKs:=fun k hk=>by simp at hk;subst hk;exact⟨by decide,by decide⟩
theorem ring_one (w:World) (k:KeyM) (t:TypeId):RingAt (w.alloc (.cells #[.string k.1,.string k.2] t)) (some ⟨w.heap.size,0,none⟩) [k]:=fun _=>⟨_,0,rfl,by simp,fun i q hi=>by
 match i,hi with
 |0,hi=>injection hi with hi;subst hi;exact⟨by simp,by simp⟩⟩
theorem alive8_any (w:World) (ha:Ask8 w):Calls Tryz.prog 36 #[] w fun e w'=>e= .returned (.bool true)∧Below w.heap.size w w':=by
 obtain⟨w1,hw1⟩: ∃W,W=w.alloc (.cells #[.string kOne,.string kSec] 71):=⟨_,rfl⟩
 have HB1:Hid (Below w.heap.size w w1):=Lib.hid (by rw[hw1];exact zad _ _)
 have HRG:Hid (RingAt w1 (some ⟨w.heap.size,0,none⟩) aKs):=Lib.hid (by rw[hw1];exact ring_one w (kOne,kSec) _)
 have x0:w1.cell? ⟨w.heap.size,0,none⟩=some (.string kOne):=by rw[hw1];simp
 have x1:w1.cell? ⟨w.heap.size,1,none⟩=some (.string kSec):=by rw[hw1];simp
 have HW1:=Lib.hid hw1
 have HA:=Lib.hid (ha.below HB1.out)
 have HSG:=Lib.hid (Sign_any aKs (some ⟨w.heap.size,0,none⟩) 1 1 kAt kPay w1 rfl (by decide) (by decide) a_key HRG.out HA.out)
 have HVF:=Lib.hid (fun(W:World) (s:ByteArray) (hW:Below w1.heap.size w1 W)=>Verify_any aKs (some ⟨w.heap.size,0,none⟩) 1 1 kAt s W rfl (by decide) (by decide) a_key (HRG.out.below hW) (HA.out.below hW))
 have HMK:=Lib.hid (fun(W:World)=>zji kOne kSec kNone kPay W (by decide) (by decide) (by decide))
 clear ha hw1
 go_enter Tryz.func36,Tryz.ntmps36
 go_wp2_with(go_at_call 38;fail)
 have hsg:=HSG.out
 rw[HW1.out]at hsg
 refine hsg.mono ?_
 rintro e w2 ⟨s,v,rfl,hs,hv,hb⟩
 rw[a_signM]at hs hv
 obtain rfl:=hv.nil
 rw[←HW1.out]at hb
 have HB2:=Lib.hid hb
 have HS:=Lib.hid hs
 have hz:s.size=98:=by
  rw[←zaQ,hs];show(zfy (kOne,kSec) kAt kPay).length=_
  rw[a_sign,List.length_append,zaQ,zba,znK];rfl
 have hex:s.extract 0 55=⟨#[101,121,74,104,98,71,99,105,79,105,74,73,85,122,73,49,78,105,73,115,73,109,116,112,90,67,73,54,73,109,115,120,73,105,119,105,100,72,108,119,73,106,111,105,89,88,81,105,102,81,46,101,51,48,46]⟩:=zeX (by
  rw[zaw,hs];show List.drop 0 (List.take 55 (zfy (kOne,kSec) kAt kPay))=strL kWant
  rw[a_sign,List.drop_zero]
  exact List.take_left' (by rw[zaQ];rfl))
 have hle:(55:Int)≤(s.size:Int):=by omega
 have hle2:55≤s.size:=by omega
 have hzi:((s.size:Int)==98)=true:=by rw[hz];rfl
 have y0:=(hb.cell (zab x0)).trans x0
 have y1:=(hb.cell (zab x1)).trans x1
 clear hsg hs hv hb
 go_wp2_with(go_at_call 42;fail)
 refine(HVF.out w2 s HB2.out).mono ?_
 rintro e w3 ⟨t,u,v,rfl,ht,hu,hv,hb⟩
 rw[a_ver HS.out]at ht hu hv
 obtain rfl:t=⟨#[123,125]⟩:=zeX ht
 obtain rfl:u=⟨#[107,49]⟩:=zeX hu
 obtain rfl:=hv.nil
 have HB3:=Lib.hid (HB2.out.trans (hb.mono HB2.out.size))
 have z0:=(hb.cell (zab y0)).trans y0
 have z1:=(hb.cell (zab y1)).trans y1
 clear ht hu hv hb y0 y1 x0 x1 hz hex hle hle2 hzi HS HSG
 go_wp2_with(go_at_call 45;fail)
 refine(HMK.out _).mono ?_
 rintro e w4 ⟨s2,hs2,rfl,hb⟩
 have HS2:=Lib.hid hs2
 have HB4:=Lib.hid (HB3.out.trans (hb.mono HB3.out.size))
 clear hs2 hb z0 z1 HMK
 go_wp2_with(go_at_call 42;fail)
 refine(HVF.out w4 s2 HB4.out).mono ?_
 rintro e w5 ⟨t2,u2,v2,rfl,ht,hu,hv,hb⟩
 rw[a_ver2 HS2.out]at ht hu hv
 have HB5:=Lib.hid (HB4.out.trans (hb.mono HB4.out.size))
 have HNM:=Lib.hid (numW hv (HA.out.below HB5.out).ask.tab)
 clear ht hu hv hb HVF HS2
 go_wp2_with(go_at_call 18;fail)
 refine HNM.out.mono ?_
 rintro e w6 ⟨rfl,hb⟩
 have HB6:=Lib.hid (HB1.out.trans ((HB5.out.trans (hb.mono HB5.out.size)).mono HB1.out.size))
 clear hb HNM
 go_wp2
 go_ret
 exact⟨rfl,HB6.out⟩
theorem refSignK_any (ks:List KeyM) (A:Option Addr) (n c:Nat) (kind payload:ByteArray) (w:World) (hn:ks.length=n) (hn9:n≤9223372036854775807) (hr:RingAt w A ks) (hp:payload.size≤6000):
  Calls Tryz.prog 39 #[.slice A n c,.string kind,.string payload] w fun e w'=> ∃t,e= .returned (.tuple #[.string t,.int .i64 (zdq ks kind payload).2])∧strL t=(zdq ks kind payload).1∧Below w.heap.size w w':=by
 have HCK:=Lib.hid (zgn ks A n c w hn hn9 hr)
 have HNM:=Lib.hid (fun W:World=>zjh kind W)
 have HR:=Lib.hid hr
 have HN:=Lib.hid hn
 obtain⟨rb,hrb⟩: ∃b,b=zcc ks:=⟨_,rfl⟩
 obtain⟨nb,hnb⟩: ∃b,b=zbe (strL kind):=⟨_,rfl⟩
 rw[←hrb]at HCK
 rw[←hnb]at HNM
 have HRB:=Lib.hid hrb
 have HNB:=Lib.hid hnb
 clear hr hn hrb hnb
 cases rb with
 |false=>
  have HS:Hid (zdq ks kind payload=([],83)):=Lib.hid (by unfold zdq;rw[if_pos HRB.out.symm])
  rw[HS.out]
  go_enter Tryz.func39,Tryz.ntmps39
  go_wp2_with(go_at_call 41;(with_reducible refine HCK.out.mono ?_);rintro e w1 ⟨rfl,hb⟩;have HB1:=Lib.hid hb;clear hb)
  go_ret2
  exact⟨_,rfl,rfl,HB1.out⟩
 |true=>
 cases nb with
 |false=>
  have HS:Hid (zdq ks kind payload=([],1)):=Lib.hid (by unfold zdq;rw[if_neg (by rw[←HRB.out];decide),if_pos HNB.out.symm])
  rw[HS.out]
  go_enter Tryz.func39,Tryz.ntmps39
  go_wp2_with(first
   |(go_at_call 41;(with_reducible refine HCK.out.mono ?_);rintro e w1 ⟨rfl,hb⟩;have HB1:=Lib.hid hb;clear hb)
   |(go_at_call 44;(with_reducible refine(HNM.out _).mono ?_);rintro e w' ⟨rfl,rfl⟩))
  go_ret2
  exact⟨_,rfl,rfl,HB1.out⟩
 |true=>
 by_cases h1:4096<payload.size
 ·have c1:(4096:Int)<(payload.size:Int):=by omega
  have HS:Hid (zdq ks kind payload=([],2)):=Lib.hid (by unfold zdq;rw[if_neg (by rw[←HRB.out];decide),if_neg (by rw[←HNB.out];decide),if_pos h1])
  rw[HS.out]
  go_enter Tryz.func39,Tryz.ntmps39
  go_wp2_with(first
   |(go_at_call 41;(with_reducible refine HCK.out.mono ?_);rintro e w1 ⟨rfl,hb⟩;have HB1:=Lib.hid hb;clear hb)
   |(go_at_call 44;(with_reducible refine(HNM.out _).mono ?_);rintro e w' ⟨rfl,rfl⟩))
  go_ret2
  exact⟨_,rfl,rfl,HB1.out⟩
 ·have c1: ¬(4096:Int)<(payload.size:Int):=by omega
  have HS:Hid (zdq ks kind payload=if 4096<(zfy (ks.getLastD default) kind payload).length then([],2)else(zfy (ks.getLastD default) kind payload,0)):=Lib.hid (by unfold zdq;rw[if_neg (by rw[←HRB.out];decide),if_neg (by rw[←HNB.out];decide),if_neg h1])
  obtain⟨l1,l2,l3⟩:=zeg HRB.out.symm
  obtain⟨n',rfl⟩: ∃k,n=k+1:=⟨n-1,by have:=HN.out;omega⟩
  have hkl:n'<ks.length:=by rw[HN.out];omega
  have HLG:=Lib.hid (last_get (ks:=ks) HN.out)
  have hq3:=l3 _ (List.getElem_mem hkl)
  have HAT:=Lib.hid (fun(W:World) (hW:Below w.heap.size w W)=>(HR.out.below hW).at hkl)
  obtain⟨b,o,rfl,hblt,c0,c1'⟩:=HR.out.at hkl
  obtain⟨k,hk⟩: ∃k,k=ks[n']:=⟨_,rfl⟩
  rw[←hk]at c0 c1' hq3 HLG
  obtain⟨k1,k2⟩:=k
  have hk1:=zcZ hq3.1
  have hkd:=zcZ HNB.out.symm
  have HHD:=Lib.hid (fun W:World=>zmu k1 kind W (by show k1.size≤_;have:k1.size≤32:=hk1.2;omega) (by omega))
  have HMK:=Lib.hid (fun(W:World) (h:ByteArray) (hh:strL h=hdrL k1 kind)=>zji k1 k2 h payload W (by have:k2.size≤128:=hq3.2.2;omega) (by have:=congrArg List.length hh;have h2:=zit hq3.1 HNB.out.symm;rw[zaQ]at this;have h2:(hdrL k1 kind).length≤100:=h2;omega) (by omega))
  have hwr:IntKind.i64.wrap (((n'+1:Nat):Int)-1)=(n':Int):=by rw[IntKind.wrap_i64];omega
  have hi0:(0:Int)≤(n':Int):=by omega
  have hi1:(n':Int)<((n'+1:Nat):Int):=by omega
  clear hk hkl HN l1 l2 l3 hq3 hk1 hkd HAT
  go_enter Tryz.func39,Tryz.ntmps39
  go_wp2_with(first
   |(go_at_call 41;(with_reducible refine HCK.out.mono ?_);rintro e w1 ⟨rfl,hb⟩;have HB1:=Lib.hid hb;have y0:=(hb.cell (p:=⟨b,o+n'*2,none⟩) hblt).trans c0;have y1:=(hb.cell (p:=⟨b,o+n'*2+1,none⟩) hblt).trans c1';clear hb)
   |(go_at_call 44;(with_reducible refine(HNM.out _).mono ?_);rintro e w' ⟨rfl,rfl⟩))
  obtain⟨wB,hwB⟩: ∃W,W=w1.alloc (.cells #[.string k1,.string k2] 71):=⟨_,rfl⟩
  rw[←hwB]
  have z0:wB.cell? ⟨w1.heap.size,0,none⟩=some (.string k1):=by rw[hwB];simp
  have z1:wB.cell? ⟨w1.heap.size,1,none⟩=some (.string k2):=by rw[hwB];simp
  have HBB:Hid (Below w.heap.size w wB.drew):=Lib.hid (by rw[hwB];exact((HB1.out.alloc HB1.out.size _)).drew)
  clear hwB y0 y1 c0 c1'
  refine wp_region_held_drew (S:=fun X=>X.cell? ⟨w1.heap.size,0,none⟩=some (.string k1)∧X.cell? ⟨w1.heap.size,1,none⟩=some (.string k2)) (by kernel_rfl) ⟨z0,z1⟩ (fun hHeld=> ?_)
  refine rgT 0 ?_
  try simp only[rgS]
  refine rgT 1 ?_
  try simp only[rgS]
  refine rgT 2 ?_
  try simp only[rgS]
  refine rgT 3 ?_
  try simp only[rgS]
  refine rgT 5 ?_
  try simp only[rgS]
  refine rgO 4 (fun K hK=> ?_)
  go_simp
  go_at_call 74
  (with_reducible refine(HHD.out _).mono ?_)
  rintro e w2 ⟨h,hh,rfl,hb⟩
  have HH:=Lib.hid hh
  have HB2:=Lib.hid (HBB.out.trans (hb.mono HBB.out.size))
  have q0:=(hb.cell (p:=⟨w1.heap.size,0,none⟩) (zab z0)).trans z0
  have q1:=(hb.cell (p:=⟨w1.heap.size,1,none⟩) (zab z1)).trans z1
  refine hK.out _ _ ⟨q0,q1⟩ (fun hH2=> ?_)
  clear hK K hb hHeld hh z0 z1
  try simp only[rgS]
  refine rgO 6 (fun K hK=> ?_)
  go_simp
  go_at_call 45
  (with_reducible refine(HMK.out _ h HH.out).mono ?_)
  rintro e w3 ⟨t,ht,rfl,hb⟩
  have HT:Hid (strL t=zfy (k1,k2) kind payload):=Lib.hid (by rw[ht,HH.out];rfl)
  have HB3:=Lib.hid (HB2.out.trans (hb.mono HB2.out.size))
  refine hK.out _ _ ⟨(hb.cell (zab q0)).trans q0,(hb.cell (zab q1)).trans q1⟩ (fun hH3=> ?_)
  clear hK K hb hH2 ht q0 q1
  try simp only[rgS]
  refine rgT 7 ?_
  try simp only[rgS]
  refine wpAnyH_done (by kernel_rfl) ?_ _
  by_cases hbig:4096<t.size
  ·have c2:(4096:Int)<(t.size:Int):=by omega
   have HQ:Hid (zdq ks kind payload=([],2)):=Lib.hid (by rw[HS.out,HLG.out,if_pos (by rw[←HT.out,zaQ];exact hbig)])
   go_wp2
   go_ret2
   exact⟨_,by(rw[HQ.out])<;>rfl,by(rw[HQ.out])<;>rfl,HB3.out⟩
  ·have c2: ¬(4096:Int)<(t.size:Int):=by omega
   have HQ:Hid (zdq ks kind payload=(strL t,0)):=Lib.hid (by rw[HS.out,HLG.out,if_neg (by rw[←HT.out,zaQ];exact hbig),HT.out])
   go_wp2
   go_ret2
   exact⟨_,by(rw[HQ.out])<;>rfl,by(rw[HQ.out])<;>rfl,HB3.out⟩
theorem jwsSigns_any (ks:List KeyM) (A:Option Addr) (n c:Nat) (kind payload:ByteArray) (w:World) (hn:ks.length=n) (hn9:n≤9223372036854775807) (hnc:n≤c) (hk:KeyOk ks) (hr:RingAt w A ks) (ha:Ask8 w):
  Calls Tryz.prog 10 #[.slice A n c,.string kind,.string payload] w fun e w'=>e= .returned (.bool true)∧Below w.heap.size w w':=by
 have HAL:=Lib.hid (alive8_any w ha)
 have HGR:=Lib.hid (fun(W:World) (hW:Below w.heap.size w W)=>zmv ks A n c W hn hn9 (hr.below hW))
 have HSG:=Lib.hid (fun(W:World) (hW:Below w.heap.size w W)=>Sign_any ks A n c kind payload W hn hn9 hnc hk (hr.below hW) (ha.below hW))
 have HRS:=Lib.hid (fun(W:World) (hW:Below w.heap.size w W) (hp:payload.size≤6000)=>refSignK_any ks A n c kind payload W hn hn9 (hr.below hW) hp)
 have HCK:=Lib.hid (fun(W:World) (hW:Below w.heap.size w W)=>zmW ks A n c W hn hn9 hnc hk (hr.below hW))
 have HRC:=Lib.hid (fun(W:World) (hW:Below w.heap.size w W)=>zgn ks A n c W hn hn9 (hr.below hW))
 have HTB:=Lib.hid (fun(W:World) (hW:Below w.heap.size w W)=>(ha.below hW).ask.tab)
 unfold zkm at HCK
 obtain⟨rb,hrb⟩: ∃b,b=zcc ks:=⟨_,rfl⟩
 rw[←hrb]at HCK HRC
 obtain⟨gr,hgr⟩: ∃b,b=grK ks:=⟨_,rfl⟩
 rw[←hgr]at HGR
 clear ha hr hk hn hrb hgr
 go_enter Tryz.func10,Tryz.ntmps10
 go_wp2_with(go_at_call 36;fail)
 refine HAL.out.mono ?_
 rintro e w1 ⟨rfl,hb⟩
 have HB1:=Lib.hid hb
 clear hb HAL
 go_wp2_with(go_at_call 37;fail)
 refine(HGR.out _ HB1.out).mono ?_
 rintro e w2 ⟨rfl,hb⟩
 have HB2:=Lib.hid (HB1.out.trans (hb.mono HB1.out.size))
 clear hb HGR
 cases gr with
 |true=>
  go_wp2
  go_ret
  exact⟨rfl,HB2.out⟩
 |false=>
 by_cases k1:1000<kind.size
 ·have c1:(1000:Int)<(kind.size:Int):=by omega
  go_wp2
  go_ret
  exact⟨by first|rfl|simp[c1],HB2.out⟩
 have c1: ¬(1000:Int)<(kind.size:Int):=by omega
 by_cases k2:5000<payload.size
 ·have c2:(5000:Int)<(payload.size:Int):=by omega
  go_wp2
  go_ret
  exact⟨by first|rfl|simp[c2],HB2.out⟩
 have c2: ¬(5000:Int)<(payload.size:Int):=by omega
 go_wp2_with(go_at_call 38;fail)
 refine(HSG.out _ HB2.out).mono ?_
 rintro e w3 ⟨s,v,rfl,hs,hv,hb⟩
 have HB3:=Lib.hid (HB2.out.trans (hb.mono HB2.out.size))
 have HV:=Lib.hid hv
 have HS:=Lib.hid hs
 clear hb hv hs HSG
 go_wp2_with(go_at_call 39;fail)
 refine(HRS.out _ HB3.out (by omega)).mono ?_
 rintro e w4 ⟨t,rfl,ht,hb⟩
 obtain rfl:t=s:=zeX (by rw[ht,HS.out])
 obtain⟨m,hm⟩: ∃m,m=(zdq ks kind payload).2:=⟨_,rfl⟩
 rw[←hm]at HV⊢
 have HV4:=Lib.hid (HV.out.below hb)
 have HB4:=Lib.hid (HB3.out.trans (hb.mono HB3.out.size))
 clear hb ht hm HRS HV HS
 go_wp2_with(go_at_call 40;fail)
 refine(HCK.out _ HB4.out).mono ?_
 rintro e w5 ⟨rfl,hb⟩
 have HB5:=Lib.hid (HB4.out.trans (hb.mono HB4.out.size))
 have HV5:=Lib.hid (HV4.out.below hb)
 have HNE:=Lib.hid (fun(W:World) (hW:Below w5.heap.size w5 W)=>numW (HV5.out.below hW) (HTB.out W (HB5.out.trans (hW.mono HB5.out.size))))
 have hmm:(m==m)=true:=by simp
 clear hb HV4 HV5 HCK
 cases rb with
 |true=>
  rw[if_pos rfl]
  go_wp2_with fail
  refine wp_region_held_drew (S:=fun _=>True) (by kernel_rfl) trivial (fun hHeld=> ?_)
  have HB6:=Lib.hid (Below.refl w5.heap.size w5).drew
  refine rgT 0 ?_
  try simp only[rgS]
  refine rgT 2 ?_
  try simp only[rgS]
  refine rgO 1 (fun K hK=> ?_)
  go_simp
  go_at_call 18
  (with_reducible refine(HNE.out _ HB6.out).mono ?_)
  rintro e w7 ⟨rfl,hb⟩
  have HB7:=Lib.hid (HB6.out.trans (hb.mono HB6.out.size))
  refine hK.out _ _ trivial (fun hH7=> ?_)
  clear hK K hb
  try simp only[rgS]
  refine rgT 3 ?_
  try simp only[rgS]
  refine rgT 4 ?_
  try simp only[rgS]
  refine rgT 5 ?_
  try simp only[rgS]
  refine rgT 6 ?_
  try simp only[rgS]
  refine rgT 7 ?_
  try simp only[rgS]
  refine rgT 8 ?_
  try simp only[rgS]
  refine rgT 9 ?_
  try simp only[rgS]
  refine rgT 10 ?_
  try simp only[rgS]
  refine rgT 11 ?_
  try simp only[rgS]
  refine rgT 12 ?_
  try simp only[rgS]
  refine rgO 13 (fun K hK=> ?_)
  go_simp
  go_at_call 41
  (with_reducible refine(HRC.out _ (HB5.out.trans (HB7.out.mono HB5.out.size))).mono ?_)
  rintro e w8 ⟨rfl,hb⟩
  have HB8:=Lib.hid (HB7.out.trans (hb.mono HB7.out.size))
  refine hK.out _ _ trivial (fun hH8=> ?_)
  clear hK K hb
  try simp only[rgS]
  refine rgT 14 ?_
  try simp only[rgS]
  refine rgT 15 ?_
  try simp only[rgS]
  refine rgT 16 ?_
  try simp only[rgS]
  refine rgT 17 ?_
  try simp only[rgS]
  refine rgT 18 ?_
  try simp only[rgS]
  refine rgT 19 ?_
  try simp only[rgS]
  refine rgU 20 ?_
  try simp only[rgS]
  refine rgU 21 ?_
  try simp only[rgS]
  refine rgU 22 ?_
  try simp only[rgS]
  refine rgT 23 ?_
  try simp only[rgS]
  refine rgT 24 ?_
  try simp only[rgS]
  refine rgT 25 ?_
  try simp only[rgS]
  refine wpAnyH_done (by kernel_rfl) ?_ _
  go_wp2
  go_ret
  exact⟨rfl,HB5.out.trans (HB8.out.mono HB5.out.size)⟩
 |false=>
  rw[if_neg (by decide)]
  go_wp2_with fail
  refine wp_region_held_drew (S:=fun _=>True) (by kernel_rfl) trivial (fun hHeld=> ?_)
  have HB6:=Lib.hid (Below.refl w5.heap.size w5).drew
  refine rgT 0 ?_
  try simp only[rgS]
  refine rgT 2 ?_
  try simp only[rgS]
  refine rgO 1 (fun K hK=> ?_)
  go_simp
  go_at_call 18
  (with_reducible refine(HNE.out _ HB6.out).mono ?_)
  rintro e w7 ⟨rfl,hb⟩
  have HB7:=Lib.hid (HB6.out.trans (hb.mono HB6.out.size))
  refine hK.out _ _ trivial (fun hH7=> ?_)
  clear hK K hb
  try simp only[rgS]
  refine rgT 3 ?_
  try simp only[rgS]
  refine rgT 4 ?_
  try simp only[rgS]
  refine rgT 5 ?_
  try simp only[rgS]
  refine rgT 6 ?_
  try simp only[rgS]
  refine rgT 7 ?_
  try simp only[rgS]
  refine rgT 8 ?_
  try simp only[rgS]
  refine rgT 9 ?_
  try simp only[rgS]
  refine rgT 10 ?_
  try simp only[rgS]
  refine rgT 11 ?_
  try simp only[rgS]
  refine rgT 12 ?_
  try simp only[rgS]
  refine rgO 13 (fun K hK=> ?_)
  go_simp
  go_at_call 41
  (with_reducible refine(HRC.out _ (HB5.out.trans (HB7.out.mono HB5.out.size))).mono ?_)
  rintro e w8 ⟨rfl,hb⟩
  have HB8:=Lib.hid (HB7.out.trans (hb.mono HB7.out.size))
  refine hK.out _ _ trivial (fun hH8=> ?_)
  clear hK K hb
  try simp only[rgS]
  refine rgT 14 ?_
  try simp only[rgS]
  refine rgT 15 ?_
  try simp only[rgS]
  refine rgT 16 ?_
  try simp only[rgS]
  refine rgT 17 ?_
  try simp only[rgS]
  refine rgT 18 ?_
  try simp only[rgS]
  refine rgT 19 ?_
  try simp only[rgS]
  refine rgT 20 ?_
  try simp only[rgS]
  refine rgO 21 (fun K hK=> ?_)
  go_simp
  go_at_call 18
  (with_reducible refine(num_errno 83 _ (HTB.out _ (HB5.out.trans (HB8.out.mono HB5.out.size)))).mono ?_)
  rintro e w9 ⟨rfl,hb⟩
  have HB9:=Lib.hid (HB8.out.trans (hb.mono HB8.out.size))
  refine hK.out _ _ trivial (fun hH9=> ?_)
  clear hK K hb
  try simp only[rgS]
  refine rgT 22 ?_
  try simp only[rgS]
  refine rgT 23 ?_
  try simp only[rgS]
  refine rgT 24 ?_
  try simp only[rgS]
  refine rgT 25 ?_
  try simp only[rgS]
  refine wpAnyH_done (by kernel_rfl) ?_ _
  go_wp2
  go_ret
  exact⟨rfl,HB5.out.trans (HB9.out.mono HB5.out.size)⟩
end Go.Proofs.YtlcljphbldjieaaGreatDoor
