
import Derived.Lib.SlBytesConst
import Derived.Test.YtceddodfddlncaaGreatDoorJb38
import Derived.Test.YtceddodfddlncaaGreatDoorJb39
import Derived.Test.YtceddodfddlncaaGreatDoorJb42
set_option maxRecDepth 100000
set_option maxHeartbeats 16000000
set_option linter.all false
namespace Go.Proofs.YtceddodfddlncaaGreatDoor
open Go Go.RowKit
def JErr (n pos:Int) (v:Value) (w:World):Prop:=
 (n=0∧pos= -1∧v= .nilIface)∨(n≠0∧pos= -1∧v= .iface 54 (.int .i64 n))∨(n≠0∧ ∃b,v= .iface 188 (.pointer (some ⟨b,0,none⟩))∧w.cell? ⟨b,0,none⟩=some (.int .i64 pos)∧w.cell? ⟨b,1,none⟩=some (.iface 54 (.int .i64 n)))
theorem parsedL_ends (l:List Int):((zai l).2.1=0→(zai l).2.2= -1)∧((zai l).2.1≠0→(zai l).1=zeroJ):=by
 unfold zai readL
 split
 ·exact⟨fun h=>(by cases h),fun _=>rfl⟩
 ·split
  ·rename_i he;exact⟨fun h=>absurd h he,fun _=>rfl⟩
  ·split
   ·exact⟨fun h=>(by cases h),fun _=>rfl⟩
   ·exact⟨fun _=>rfl,fun h=>absurd rfl h⟩
def PAll (W:World) (r:J×Int×Int) (e:Ending) (w':World):Prop:=
 ∃v ev,e= .returned (.tuple #[v,ev])∧RepS w' (fun b=>W.heap.size≤b) r.1 v∧JErr r.2.1 r.2.2 ev w'∧Below W.heap.size W w'
theorem parse_tells (A:Option Addr) (xs:List Int) (n c:Nat) (W:World) (hn:xs.length=n) (hn2:n≤9223372036854775807) (hx:Bytes xs) (hl:Lies W A xs) (hm:Marks W) (ht:ErrTab W):
  Calls Tryz.prog 64 #[.slice A n c] W (PAll W (zai xs)):=by
 obtain⟨e1,e2⟩:=parsedL_ends xs
 refine(parse_any A xs n c W hn hn2 hx hl hm ht).mono ?_
 rintro e w' hp
 rcases hp with(⟨h0,v,rfl,hr,hb⟩|⟨h0,b,rfl,c0,c1,_,hb⟩)|⟨h0,h1,rfl,hb⟩
 ·exact⟨v,_,rfl,hr,.inl ⟨h0,e1 h0,rfl⟩,hb⟩
 ·exact⟨_,_,rfl,by rw[e2 h0];exact RepS.zero _ _,.inr (.inr ⟨h0,b,rfl,c0,c1⟩),hb⟩
 ·exact⟨_,_,rfl,by rw[e2 h0];exact RepS.zero _ _,.inr (.inl ⟨h0,h1,rfl⟩),hb⟩
structure Ask5 (w:World):Prop where
 tab:ErrTab w
 marks:Marks w
theorem Ask5.below {w w':World} (h:Ask5 w) (hb:Below w.heap.size w w'):Ask5 w':=⟨h.tab.below hb,h.marks.below hb⟩
theorem print_good (j:J) (v:Value) (w:World) (hj:RepJ w j v) (hM:Mild j) (hm:Marks w) (hr:(rgt j 1 256).1=true) (hl:(zao j).length≤4096):
  Calls Tryz.prog 84 #[v] w fun e w'=>e= .returned (.tuple #[.string (toS (zao j)),.nilIface])∧Below w.heap.size w w':=by
 refine(printJ_any j v w hj hM hm).mono ?_
 rintro e w' ⟨rfl,_,hb⟩
 have e1:zha j=(zao j,0):=by unfold zha;rw[if_neg (by rw[hr];simp),if_neg (show ¬4096<(zao j).length by omega)]
 rw[e1]
 exact⟨rfl,hb⟩
theorem okB_bd {c:Int} (h:okB c=true):45≤c∧c≤122∧c≠92:=by
 unfold okB at h
 have:=of_decide_eq_true h
 omega
theorem ascii_utf: ∀(l:List Int),(∀c∈l,0≤c∧c<128)→badU l=l.length
 |[],_=>rfl
 |c::r,h=>by
  have hc:=h c (by simp)
  have hp:putL c=[c]:=zea hc.1 hc.2
  have hn:nxL (c::r)=(c,1):=by
   have:=nx_put (n:=c) (by rw[hp];simp) r
   rw[hp]at this
   exact this
  rw[zft (by rw[hn];show c≠ -1;omega),hn]
  show 1+badU r=_
  rw[ascii_utf r (fun x hx=>h x (List.mem_cons_of_mem _ hx)),List.length_cons];omega
theorem zls {l:List Int} (h:zbJ l=true): ∀c∈l,45≤c∧c≤122∧c≠92:=by
 unfold zbJ at h
 rw[Bool.and_eq_true,List.all_eq_true]at h
 exact fun c hc=>okB_bd (h.2 c hc)
theorem name_utf {s:ByteArray} (h:zbJ (strL s)=true):utfS s=true:=by
 unfold utfS
 exact decide_eq_true (ascii_utf _ fun c hc=>by have:=zls h c hc;omega)
theorem zlr {s:ByteArray} (h:zbJ (strL s)=true):zar (strL s)=34::(strL s++[34]):=by
 rw[zen,qB_self _ fun c hc=>by
  have:=zls h c hc
  unfold qOne
  rw[if_neg (by omega),if_neg (by omega)]]
theorem zmX {kid kind:ByteArray} (h1:zbJ (strL kid)=true) (h2:zbJ (strL kind)=true):(rgt (zeq kid kind) 1 256).1=true:=by
 have u1:=name_utf h1
 have u2:=name_utf h2
 have u3:utfS sHS=true:=by decide+kernel
 have u4:utfS sAlg=true:=by decide+kernel
 have u5:utfS sKid=true:=by decide+kernel
 have u6:utfS sTyp=true:=by decide+kernel
 have b1:Op.bytesLess sAlg.toList sKid.toList=true:=by decide+kernel
 have b2:Op.bytesLess sKid.toList sTyp.toList=true:=by decide+kernel
 have hc:zch 5 0 ⟨#[]⟩ 3 3=true:=by decide+kernel
 have ht: ∀(t:ByteArray) (d left:Int),utfS t=true→1≤left→rgt (zbz t) d left=(true,left-1):=fun t d left hu hl=>by
  rw[zbz,rgt,if_neg,if_neg (by simp),if_neg (by simp)]
  ·unfold zdz;rw[if_neg (by decide),if_neg (by decide),if_neg (by decide),if_pos rfl,hu]
  ·intro h
   rcases h with h|h
   ·omega
   ·revert h;unfold zch;simp
 have hr:rnL none [sAlg,sKid,sTyp]=true:=by
  rw[zdm,zdm,zdm,rnL_nil,u4,u5,u6];simp[b1,b2]
 rw[zeq,rgt,if_neg,if_neg,if_pos (.inr rfl),if_pos (by decide),zcf,ht _ _ _ u3 (by decide),if_pos rfl,zcf,ht _ _ _ u1 (by decide),if_pos rfl,zcf,ht _ _ _ u2 (by decide),if_pos rfl,zcf]
 ·intro h;rcases h.2 with h|h
  ·exact h rfl
  ·rw[hr]at h;cases h
 ·intro h;rcases h with h|h
  ·revert h;decide
  ·have:zch 5 0 ⟨#[]⟩ 3 3=false:=h
   rw[hc]at this;cases this
theorem zni {kid kind:ByteArray} (h1:zbJ (strL kid)=true) (h2:zbJ (strL kind)=true):(hdrL kid kind).length≤100:=by
 have z1:=zcW h1
 have z2:=zcW h2
 unfold hdrL tHead tTyp
 rw[zlr h1,zlr h2]
 simp only[List.length_append,List.length_cons,List.length_nil,zaQ]
 omega
theorem zdY (kid kind:ByteArray):Bytes (hdrL kid kind):=by rw[←zej];exact textL_by _
theorem head_mild {kid kind:ByteArray} (h1:zbJ (strL kid)=true) (h2:zbJ (strL kind)=true):Mild (zeq kid kind):=by
 have z1:=zcW h1
 have z2:=zcW h2
 have ht: ∀t:ByteArray,t.size≤1000000000→Mild (zbz t):=fun t h=> .mk 3 0 t [] [] h (by simp) (by simp)
 refine .mk 5 0 ⟨#[]⟩ _ _ (by decide) (fun t hm=> ?_) (fun x hm=> ?_)
 ·simp at hm;rcases hm with rfl|rfl|rfl<;>decide
 ·simp at hm;rcases hm with rfl|rfl|rfl
  ·exact ht _ (by decide)
  ·exact ht _ (by omega)
  ·exact ht _ (by omega)
theorem built_memb (t y2:ByteArray) (y0 y1:Int) (yA yK:Option Addr) (yp yc yq yd:Nat):Tryz.prog.built 133 [(0,.string t),(1,.agg #[.int .i64 y0,.int .i64 y1,.string y2,.slice yA yp yc,.slice yK yq yd])]=some #[.string t,.int .i64 y0,.int .i64 y1,.string y2,.slice yA yp yc,.slice yK yq yd]:=by kernel_rfl
theorem zmu (w:World) (t y2:ByteArray) (y0 y1:Int) (yA yK:Option Addr) (yp yc yq yd:Nat):(Instr.build 133 #[(0,.string t),(1,.agg #[.int .i64 y0,.int .i64 y1,.string y2,.slice yA yp yc,.slice yK yq yd])]).run Tryz.prog w= .ok (.agg #[.string t,.int .i64 y0,.int .i64 y1,.string y2,.slice yA yp yc,.slice yK yq yd]) w:=run_build w 133 _ _ (built_memb t y2 y0 y1 yA yK yp yc yq yd)
abbrev mbV (n t:ByteArray):List Value:=[.string n,.int .i64 3,.int .i64 0,.string t,.slice none 0 0,.slice none 0 0]
theorem zkq {o:Oper} {a:Act} {w:World} {K:Act→World→Prop} {Q:Exit→Act→World→Prop} (parts:Array (Nat×Operand)) (ho:o.op= .buildSlice 174 3 parts) (n1 t1 n2 t2 n3 t3:ByteArray)
  (hv:(parts.map fun(i,x)=>(i,a.eval x)).toList=[(0,.agg (mbV n1 t1).toArray),(1,.agg (mbV n2 t2).toArray),(2,.agg (mbV n3 t3).toArray)])
  (h:K (a.put o.dst (.slice (some ⟨w.heap.size,0,none⟩) 3 3)) (w.alloc (.cells (mbV n1 t1++mbV n2 t2++mbV n3 t3).toArray 133))):o.wp Tryz.prog a w K Q:=by
 obtain⟨iM,hM,hM0,hM1,hM2⟩:=info_parts infoMp
 refine wp_buildSlice 174 133 3 parts ho (mbV n1 t1++mbV n2 t2++mbV n3 t3).toArray iM _ Tryz.underlying174 hM hM0 (by rw[hM1];decide) (by rw[hM1];decide) ?_ h
 rw[hM1,hv]
 kernel_rfl
def hdZ (kid kind:ByteArray):List MC:=[⟨sAlg,.int .i64 3,.int .i64 0,.string sHS,.slice none 0 0,.slice none 0 0⟩,⟨sKid,.int .i64 3,.int .i64 0,.string kid,.slice none 0 0,.slice none 0 0⟩,⟨sTyp,.int .i64 3,.int .i64 0,.string kind,.slice none 0 0,.slice none 0 0⟩]
theorem zjY (t:ByteArray) (W:World) (S:Nat→Prop) (ht:t.size≤9223372036854775807):RepS W S (zbz t) (.agg #[.int .i64 3,.int .i64 0,.string t,.slice none 0 0,.slice none 0 0]):=by
 rw[zbz,RepS]
 exact⟨_,none,0,rfl,ht,⟨none,0,rfl,by simp,fun h=>absurd rfl h⟩,by simp,fun h=>absurd rfl h⟩
theorem hd_flat (kid kind:ByteArray) (W:World) (S:Nat→Prop) (h1:kid.size≤9223372036854775807) (h2:kind.size≤9223372036854775807):FlatM W S (zkY kid kind) (hdZ kid kind):=
 ⟨_,_,rfl,rfl,by decide,zjY _ _ _ (by decide),_,_,rfl,rfl,by show sKid.size≤_;decide,zjY _ _ _ h1,_,_,rfl,rfl,by show sTyp.size≤_;decide,zjY _ _ _ h2,rfl⟩
theorem hd_row (kid kind:ByteArray) (w:World):RowM (w.alloc (.cells (mbV sAlg sHS++mbV sKid kid++mbV sTyp kind).toArray 133)) (.slice (some ⟨w.heap.size,0,none⟩) 3 3) (hdZ kid kind):=by
 refine .inr ⟨w.heap.size,3,rfl,by simp,fun j hj i u hu=> ?_⟩
 rw[World.cell?_alloc_new]
 have hi:i<6:=by
  have:=(List.getElem?_eq_some_iff.1 hu).1
  simpa[encM]using this
 match j,hj with
 |0,_=>match i,hi with
  |0,_=>exact hu|1,_=>exact hu|2,_=>exact hu|3,_=>exact hu|4,_=>exact hu|5,_=>exact hu
 |1,_=>match i,hi with
  |0,_=>exact hu|1,_=>exact hu|2,_=>exact hu|3,_=>exact hu|4,_=>exact hu|5,_=>exact hu
 |2,_=>match i,hi with
  |0,_=>exact hu|1,_=>exact hu|2,_=>exact hu|3,_=>exact hu|4,_=>exact hu|5,_=>exact hu
theorem hd_ok {kid kind:ByteArray}:MsOk (zkY kid kind):=by
 have n1: ¬sAlg=sKid:=by decide
 have n2: ¬sAlg=sTyp:=by decide
 have n3: ¬sKid=sTyp:=by decide
 refine⟨by show 3≤256;decide,by simp[zkY,n1,n2,n3],fun m hm=> ?_⟩
 have ht: ∀t:ByteArray,Sm (zbz t):=fun t=> .mk (by simp) (by simp) (by simp)
 simp[zkY]at hm
 rcases hm with rfl|rfl|rfl<;>exact ht _
theorem header_any (kid sec kind:ByteArray) (w:World) (hk:zbJ (strL kid)=true) (hd:zbJ (strL kind)=true) (hm:Marks w):
  Calls Tryz.prog 52 #[.agg #[.string kid,.string sec],.string kind] w fun e w'=>e= .returned (.string (toS (hdrL kid kind)))∧Below w.heap.size w w':=by
 have z1:=zcW hk
 have z2:=zcW hd
 have HOB:=Lib.hid (fun(W:World)=>obj_all (zkY kid kind) hd_ok (W.alloc (.cells (mbV sAlg sHS++mbV sKid kid++mbV sTyp kind).toArray 133)) (.slice (some ⟨W.heap.size,0,none⟩) 3 3) (hdZ kid kind) (fun _=>False) (fun _ h=>h.elim) (hd_flat kid kind _ _ (by omega) (by omega)) (hd_row kid kind W))
 rw[putsL_head]at HOB
 have HPR:=Lib.hid (fun(W:World) (v:Value) (hj:RepJ W (zeq kid kind) v) (hW:Below w.heap.size w W)=>by
  have:=print_good (zeq kid kind) v W hj (head_mild hk hd) (hm.below hW) (zmX hk hd) (by rw[zej];exact Nat.le_trans (zni hk hd) (by decide))
  rw[zej]at this
  exact this)
 have HT1:=Lib.hid (fun W:World=>zgw ⟨#[72,83,50,53,54]⟩ W (by decide))
 have HT2:=Lib.hid (fun W:World=>zgw kid W (by omega))
 have HT3:=Lib.hid (fun W:World=>zgw kind W (by omega))
 obtain⟨T,hT⟩: ∃T,T=toS (hdrL kid kind):=⟨_,rfl⟩
 rw[←hT]at HPR⊢
 have x0:(w.alloc (.cells #[.string kid,.string sec] 41)).cell? ⟨w.heap.size,0,none⟩=some (.string kid):=by simp
 have hlt:=zaa x0
 have hm1:=fun W=>zmu W ⟨#[97,108,103]⟩ ⟨#[72,83,50,53,54]⟩ 3 0 none none 0 0 0 0
 have hm2:=fun W=>zmu W ⟨#[107,105,100]⟩ kid 3 0 none none 0 0 0 0
 have hm3:=fun W=>zmu W ⟨#[116,121,112]⟩ kind 3 0 none none 0 0 0 0
 have HB0:=Lib.hid (zad w (.cells #[.string kid,.string sec] 41)).drew
 clear hT hm z1 z2
 go_enter Tryz.func52,Tryz.ntmps52
 go_wp2_with fail
 refine wp_region_held_drew (S:=fun X=>X.cell? ⟨w.heap.size,0,none⟩=some (.string kid)) (by kernel_rfl) x0 (fun hHeld=> ?_)
 refine rgT 2 ?_
 try simp only[rgS]
 refine rgT 3 ?_
 try simp only[rgS]
 refine rgT 6 ?_
 try simp only[rgS]
 refine rgO 0 (fun K hK=> ?_)
 go_simp
 go_at_call 68
 (with_reducible refine(HT1.out _).mono ?_)
 rintro e w1 ⟨rfl,hb⟩
 have HB1:=Lib.hid (HB0.out.trans (hb.mono HB0.out.size))
 have y0:=(hb.cell (p:=⟨w.heap.size,0,none⟩) hlt).trans x0
 refine hK.out _ _ y0 (fun hH1=> ?_)
 clear hK K hb hHeld
 try simp only[rgS]
 refine rgT 1 ?_
 try simp only[rgS]
 refine rgO 4 (fun K hK=> ?_)
 go_simp
 go_at_call 68
 (with_reducible refine(HT2.out _).mono ?_)
 rintro e w2 ⟨rfl,hb⟩
 have HB2:=Lib.hid (HB1.out.trans (hb.mono HB1.out.size))
 have y1:=(hb.cell (zaa y0)).trans y0
 refine hK.out _ _ y1 (fun hH2=> ?_)
 clear hK K hb hH1 y0
 try simp only[rgS]
 refine rgT 5 ?_
 try simp only[rgS]
 refine rgO 7 (fun K hK=> ?_)
 go_simp
 go_at_call 68
 (with_reducible refine(HT3.out _).mono ?_)
 rintro e w3 ⟨rfl,hb⟩
 have HB3:=Lib.hid (HB2.out.trans (hb.mono HB2.out.size))
 have y2:=(hb.cell (zaa y1)).trans y1
 refine hK.out _ _ y2 (fun hH3=> ?_)
 clear hK K hb hH2 y1
 try simp only[rgS]
 refine rgT 8 ?_
 try simp only[rgS]
 refine rgO 9 (fun K hK=> ?_)
 rw[if_pos (by kernel_rfl)]
 refine zkq _ rfl sAlg sHS sKid kid sTyp kind (by kernel_rfl) ?_
 have hbn:=zad w3 (.cells (mbV sAlg sHS++mbV sKid kid++mbV sTyp kind).toArray 133)
 have HOB4:=Lib.hid (HOB.out w3)
 obtain⟨w4,hw4⟩: ∃W,W=w3.alloc (.cells (mbV sAlg sHS++mbV sKid kid++mbV sTyp kind).toArray 133):=⟨_,rfl⟩
 rw[←hw4]at hbn HOB4⊢
 clear hw4
 have y3:=(hbn.cell (zaa y2)).trans y2
 refine hK.out _ _ y3 (fun hH4=> ?_)
 have HB4:=Lib.hid (HB3.out.trans (hbn.mono HB3.out.size))
 clear hK K hbn hH3
 try simp only[rgS]
 refine rgO 10 (fun K hK=> ?_)
 go_simp
 go_at_call 85
 (with_reducible refine HOB4.out.mono ?_)
 rintro e w5 ⟨v5,rfl,hr,hb⟩
 have HR5:=Lib.hid (RepS.toJ _ _ hr)
 have HB5:=Lib.hid (HB4.out.trans (hb.mono HB4.out.size))
 have y4:=(hb.cell (zaa y3)).trans y3
 refine hK.out _ _ y4 (fun hH5=> ?_)
 clear hK K hb hH4 y2 hr
 try simp only[rgS]
 refine rgO 11 (fun K hK=> ?_)
 go_simp
 go_at_call 84
 (with_reducible refine(HPR.out _ _ HR5.out HB5.out).mono ?_)
 rintro e w6 ⟨rfl,hb⟩
 have HB6:=Lib.hid (HB5.out.trans (hb.mono HB5.out.size))
 have y5:=(hb.cell (zaa y4)).trans y4
 refine hK.out _ _ y5 (fun hH6=> ?_)
 clear hK K hb hH5 y3
 try simp only[rgS]
 refine rgT 12 ?_
 try simp only[rgS]
 refine rgT 13 ?_
 try simp only[rgS]
 refine rgT 14 ?_
 try simp only[rgS]
 refine rgT 15 ?_
 try simp only[rgS]
 refine rgT 16 ?_
 try simp only[rgS]
 refine wpAnyH_done (by kernel_rfl) ?_ _
 go_wp2
 go_ret
 exact⟨rfl,HB6.out⟩
theorem ErrAsk.unl (b:Nat) (no:Int) (found:ByteArray) (q:Nat) (first caps:Array Value) (r:Bool) (I J:World→Prop) (E:Value→World→Prop) (R:World→Prop) (hno:no≠0)
  (hent: ∀args w,(callFunc q args).run Tryz.prog w= .ok (.enter q args) w) (hI: ∀W,I W→UnlAt W b no found q first caps) (hRU: ∀W,R W→UnlAt W b no found q first caps) (hR: ∀W W',R W→Below W.heap.size W W'→R W')
  (hq: ∀W,I W→Calls Tryz.prog q (first++caps) W fun e w'=>e= .returned (.bool r)∧R w') (hJ:r=true→ ∀W,R W→J W)
  (hE:r=false→ ∀W b',R W→W.cell? ⟨b',0,none⟩=some (.iface 54 (.int .i64 no))→E (.iface 97 (.pointer (some ⟨b',0,none⟩))) W):
  ErrAsk 61 #[.pointer (some ⟨b+2,0,none⟩),.pointer (some ⟨b,0,none⟩),.pointer (some ⟨b+1,0,none⟩)] I J E where
 enters:=enters_of Tryz.func61 (by kernel_rfl) rfl
 call:=fun W hW=>by
  obtain⟨u5,u3,u4⟩:=hI W hW
  refine(unlessC_any (b+2) b (b+1) no found q first caps r R W hno u5 u3 u4 hent hR ((hq W hW).mono ?_)).mono ?_
  ·rintro e w' ⟨rfl,h⟩
   exact⟨rfl,h,(hRU _ h).2.1,(hRU _ h).2.2⟩
  ·rintro e w' (⟨h1,rfl,h2⟩|⟨h1,b',rfl,h2,h3⟩)
   ·exact .inl ⟨rfl,hJ h1 _ h2⟩
   ·exact .inr ⟨_,_,rfl,hE h1 _ _ h3 h2⟩
structure Ask8 (w:World):Prop where
 ask:Ask5 w
 tabs:Tabs w
 maxl:MaxLW w
theorem Ask8.below {w w':World} (h:Ask8 w) (hb:Below w.heap.size w w'):Ask8 w':=⟨h.ask.below hb,h.tabs.below hb,h.maxl.below hb⟩
theorem sign_any (k:KeyM) (kind payload:ByteArray) (w:World) (hk:zbJ (strL k.1)=true) (hd:zbJ (strL kind)=true) (hs:k.2.size≤1000) (hp:payload.size≤100000) (ha:Ask8 w):
  Calls Tryz.prog 23 #[.agg #[.string k.1,.string k.2],.string kind,.string payload] w fun e w'=> ∃t,strL t=zdv k kind payload∧e= .returned (.string t)∧Below w.heap.size w w':=
 sign_of k.1 k.2 kind payload (hdrL k.1 kind) w (zdY _ _) (Nat.le_trans (zni hk hd) (by decide)) hs hp ha.tabs fun W hW=>header_any k.1 k.2 kind W hk hd (ha.ask.marks.below hW)
def zcz (ks:List KeyM) (kind text:ByteArray):Int:=if zbn ks=false then 83 else if zbJ (strL kind)=false then 1 else if 4096<text.size then 2 else 0
structure Three (w w4:World) (A:Option Addr) (n c:Nat) (kind text:ByteArray):Prop where
 bel:Below w.heap.size w w4
 ring:w4.cell? ⟨w.heap.size,0,none⟩=some (.slice A n c)
 kd:w4.cell? ⟨w.heap.size+1,0,none⟩=some (.string kind)
 un:UnlAt w4 (w.heap.size+2) 1 wName 47 #[] #[.pointer (some ⟨w.heap.size+1,0,none⟩)]
 tx:w4.cell? ⟨w.heap.size+5,0,none⟩=some (.string text)
 us:UnlAt w4 (w.heap.size+6) 2 zge 49 #[] #[.pointer (some ⟨w.heap.size+5,0,none⟩)]
theorem entName: ∀args w,(callFunc 47 args).run Tryz.prog w= .ok (.enter 47 args) w:=enters_of Tryz.func47 (by kernel_rfl) rfl
theorem entShort: ∀args w,(callFunc 49 args).run Tryz.prog w= .ok (.enter 49 args) w:=enters_of Tryz.func49 (by kernel_rfl) rfl
def okN (ks:List KeyM) (kind text:ByteArray) (i:Nat):Prop:=(0<i→zbn ks=true)∧(1<i→zbJ (strL kind)=true)∧(2<i→text.size≤4096)
theorem three_ring (ks:List KeyM) (A:Option Addr) (n c:Nat) (kind text:ByteArray) (w4:World) (p:Nat) (hp:w4.cell? ⟨p,0,none⟩=some (.slice A n c)) (hn:ks.length=n) (hn9:n≤9223372036854775807) (hnc:n≤c) (hk:KeyOk ks) (hr:RingAt w4 A ks)
  (I:Nat→World→Prop) (E:Value→World→Prop) (row:Option Nat) (hI: ∀W,I 0 W→w4.grownBy W row∧RingAt W A ks∧some p≠row)
  (hJ:zbn ks=true→ ∀W W',I 0 W→Below W.heap.size W W'→I 1 W') (hE:zbn ks=false→ ∀W W',I 0 W→Below W.heap.size W W'→E (.iface 54 (.int .i64 83)) W'):
  ErrAsk 46 #[.pointer (some ⟨p,0,none⟩)] (I 0) (I 1) E where
 enters:=enters_of Tryz.func46 (by kernel_rfl) rfl
 call:=fun W hW=>by
  obtain⟨hg,hrw,hne⟩:=hI W hW
  refine(ringC_any ks A n c p W (hg.cell hp hne) hn hn9 hnc hk hrw).mono ?_
  rintro e w' ⟨rfl,hb⟩
  cases h:zbn ks with
  |true=>rw[if_pos rfl];exact .inl ⟨rfl,hJ h W w' hW hb⟩
  |false=>rw[if_neg (by decide)];exact .inr ⟨_,_,rfl,hE h W w' hW hb⟩
theorem firstN_one {ks:List KeyM} {kind text:ByteArray} (h:zbn ks=false):zcz ks kind text=83:=by unfold zcz;rw[if_pos h]
theorem firstN_two {ks:List KeyM} {kind text:ByteArray} (h1:zbn ks=true) (h:zbJ (strL kind)=false):zcz ks kind text=1:=by unfold zcz;rw[if_neg (by rw[h1];decide),if_pos h]
theorem firstN_three {ks:List KeyM} {kind text:ByteArray} (h1:zbn ks=true) (h2:zbJ (strL kind)=true) (h: ¬text.size≤4096):zcz ks kind text=2:=by unfold zcz;rw[if_neg (by rw[h1];decide),if_neg (by rw[h2];decide),if_pos (by omega)]
theorem firstN_ok {ks:List KeyM} {kind text:ByteArray} (h1:zbn ks=true) (h2:zbJ (strL kind)=true) (h:text.size≤4096):zcz ks kind text=0:=by unfold zcz;rw[if_neg (by rw[h1];decide),if_neg (by rw[h2];decide),if_neg (by omega)]
def FTells (m:Int) (w:World) (e:Ending) (w':World):Prop:= ∃v,e= .returned v∧WErr m v w'∧Below w.heap.size w w'
theorem zmd (ks:List KeyM) (A:Option Addr) (n c:Nat) (kind text:ByteArray) (w w4:World) (h:Three w w4 A n c kind text) (hn:ks.length=n) (hn9:n≤9223372036854775807) (hnc:n≤c) (hk:KeyOk ks)
  (row:Option Nat) (hring: ∀W,w4.grownBy W row→RingAt W A ks) (hne: ∀b,w.heap.size≤b→b<w.heap.size+9→some b≠row) (X:World→Prop) (hX: ∀W W',X W→w4.grownBy W row→Below W.heap.size W W'→X W')
  (I:Nat→World→Prop) (E:Value→World→Prop) (hI: ∀i,i≤3→I i=fun W=>w4.grownBy W row∧okN ks kind text i∧X W) (hE: ∀v W m,zcz ks kind text=m→m≠0→WErr m v W→w4.grownBy W row→E v W):
  ErrAsk 46 #[.pointer (some ⟨w.heap.size,0,none⟩)] (I 0) (I 1) E∧
  ErrAsk 61 #[.pointer (some ⟨w.heap.size+2+2,0,none⟩),.pointer (some ⟨w.heap.size+2,0,none⟩),.pointer (some ⟨w.heap.size+2+1,0,none⟩)] (I 1) (I 2) E∧
  ErrAsk 61 #[.pointer (some ⟨w.heap.size+6+2,0,none⟩),.pointer (some ⟨w.heap.size+6,0,none⟩),.pointer (some ⟨w.heap.size+6+1,0,none⟩)] (I 2) (I 3) E:=by
 have hup: ∀W W',w4.grownBy W row→Below W.heap.size W W'→w4.grownBy W' row:=fun W W' hg hb=>hg.trans (zaX hb row)
 refine⟨?_,?_,?_⟩
 ·refine three_ring ks A n c kind text w4 w.heap.size h.ring hn hn9 hnc hk (hring w4 (zaY _ _)) I E row ?_ ?_ ?_
  ·rw[hI 0 (by decide)];rintro W ⟨hg,_,_⟩;exact⟨hg,hring W hg,hne _ (by omega) (by omega)⟩
  ·rw[hI 0 (by decide),hI 1 (by decide)];rintro hb W W' ⟨hg,⟨_,_,_⟩,hx⟩ hw
   exact⟨hup W W' hg hw,⟨fun _=>hb,fun h=>absurd h (by decide),fun h=>absurd h (by decide)⟩,hX W W' hx hg hw⟩
  ·rw[hI 0 (by decide)];rintro hb W W' ⟨hg,_,_⟩ hw
   exact hE _ _ 83 (firstN_one hb) (by decide) (.inr (.inl ⟨by decide,rfl⟩)) (hup W W' hg hw)
 ·have hU: ∀W,w4.grownBy W row→UnlAt W (w.heap.size+2) 1 wName 47 #[] #[.pointer (some ⟨w.heap.size+1,0,none⟩)]:=fun W hg=>h.un.grown hg (hne _ (by omega) (by omega)) (hne _ (by omega) (by omega)) (hne _ (by omega) (by omega))
  refine ErrAsk.unl (w.heap.size+2) 1 wName 47 #[] #[.pointer (some ⟨w.heap.size+1,0,none⟩)] (zbJ (strL kind)) (I 1) (I 2) E (fun W=>w4.grownBy W row∧zbn ks=true∧X W) (by decide) entName ?_ (fun W hg=>hU W hg.1) ?_ ?_ ?_ ?_
  ·rw[hI 1 (by decide)];rintro W ⟨hg,_,_⟩;exact hU W hg
  ·rintro W W' ⟨hg,h1,hx⟩ hb;exact⟨hup W W' hg hb,h1,hX W W' hx hg hb⟩
  ·rw[hI 1 (by decide)];rintro W ⟨hg,⟨h1,_,_⟩,hx⟩
   refine(nameQ_any kind (w.heap.size+1) W (hg.cell h.kd (hne (w.heap.size+1) (by omega) (by omega)))).mono ?_
   rintro e w' ⟨rfl,rfl⟩
   exact⟨rfl,hg,h1 (by decide),hx⟩
  ·rw[hI 2 (by decide)];rintro hb W ⟨hg,h1,hx⟩;exact⟨hg,⟨fun _=>h1,fun _=>hb,fun h=>absurd h (by decide)⟩,hx⟩
  ·rintro hb W b' ⟨hg,h1,hx⟩ hc
   exact hE _ _ 1 (firstN_two h1 hb) (by decide) (zcQ (by decide) hc) hg
 ·have hU: ∀W,w4.grownBy W row→UnlAt W (w.heap.size+6) 2 zge 49 #[] #[.pointer (some ⟨w.heap.size+5,0,none⟩)]:=fun W hg=>h.us.grown hg (hne _ (by omega) (by omega)) (hne _ (by omega) (by omega)) (hne _ (by omega) (by omega))
  refine ErrAsk.unl (w.heap.size+6) 2 zge 49 #[] #[.pointer (some ⟨w.heap.size+5,0,none⟩)] (decide (text.size≤4096)) (I 2) (I 3) E (fun W=>w4.grownBy W row∧(zbn ks=true∧zbJ (strL kind)=true)∧X W) (by decide) entShort ?_ (fun W hg=>hU W hg.1) ?_ ?_ ?_ ?_
  ·rw[hI 2 (by decide)];rintro W ⟨hg,_,_⟩;exact hU W hg
  ·rintro W W' ⟨hg,h1,hx⟩ hb;exact⟨hup W W' hg hb,h1,hX W W' hx hg hb⟩
  ·rw[hI 2 (by decide)];rintro W ⟨hg,⟨h1,h2,_⟩,hx⟩
   refine(zlW text (w.heap.size+5) W (hg.cell h.tx (hne (w.heap.size+5) (by omega) (by omega)))).mono ?_
   rintro e w' ⟨rfl,rfl⟩
   exact⟨rfl,hg,⟨h1 (by decide),h2 (by decide)⟩,hx⟩
  ·rw[hI 3 (by decide)];rintro hb W ⟨hg,⟨h1,h2⟩,hx⟩;exact⟨hg,⟨fun _=>h1,fun _=>h2,fun _=>of_decide_eq_true hb⟩,hx⟩
  ·rintro hb W b' ⟨hg,⟨h1,h2⟩,hx⟩ hc
   exact hE _ _ 2 (firstN_three h1 h2 (of_decide_eq_false hb)) (by decide) (zcQ (by decide) hc) hg
theorem sign_first (ks:List KeyM) (A:Option Addr) (n c:Nat) (kind text:ByteArray) (w w3:World) (h:Three w w3 A n c kind text) (hz:w3.heap.size=w.heap.size+9) (hn:ks.length=n) (hn9:n≤9223372036854775807) (hnc:n≤c) (hk:KeyOk ks) (hr:RingAt w A ks):
  Calls Tryz.prog 19 #[.slice (some ⟨w3.heap.size,0,none⟩) 3 3] (w3.alloc (.cells #[.func (.func 46) #[] #[.pointer (some ⟨w.heap.size,0,none⟩)],unlV (w.heap.size+2),unlV (w.heap.size+6)] 50)) (FTells (zcz ks kind text) w3):=by
 obtain⟨w4,hw4⟩: ∃W,W=w3.alloc (.cells #[.func (.func 46) #[] #[.pointer (some ⟨w.heap.size,0,none⟩)],unlV (w.heap.size+2),unlV (w.heap.size+6)] 50):=⟨_,rfl⟩
 have hb4:Below w3.heap.size w3 w4:=by rw[hw4];exact zad _ _
 have r0:w4.cell? ⟨w3.heap.size,0,none⟩=some (.func (.func 46) #[] #[.pointer (some ⟨w.heap.size,0,none⟩)]):=by rw[hw4];simp
 have r1:w4.cell? ⟨w3.heap.size,1,none⟩=some (unlV (w.heap.size+2)):=by rw[hw4];simp
 have r2:w4.cell? ⟨w3.heap.size,2,none⟩=some (unlV (w.heap.size+6)):=by rw[hw4];simp
 have hs4:w3.heap.size<w4.heap.size:=by rw[hw4];simp
 rw[←hw4]
 have h4:Three w w4 A n c kind text:=⟨h.bel.trans (hb4.mono h.bel.size),(hb4.cell (zaa h.ring)).trans h.ring,(hb4.cell (zaa h.kd)).trans h.kd,h.un.below hb4,(hb4.cell (zaa h.tx)).trans h.tx,h.us.below hb4⟩
 obtain⟨I,hI⟩: ∃I:Nat→World→Prop,I=fun i W=>w4.grownBy W none∧okN ks kind text i∧True:=⟨_,rfl⟩
 obtain⟨E,hE⟩: ∃E:Value→World→Prop,E=fun v W=>WErr (zcz ks kind text) v W∧w4.grownBy W none:=⟨_,rfl⟩
 obtain⟨a0,a1,a2⟩:=zmd ks A n c kind text w w4 h4 hn hn9 hnc hk none (fun W hg=>hr.below (h4.bel.grown hg h4.bel.size (fun b e=>by cases e))) (fun b _ _ e=>by cases e) (fun _=>True) (fun _ _ _ _ _=>trivial) I E (fun i _=>by rw[hI]) (fun v W m h1 _ h2 h3=>by rw[hE,h1];exact⟨h2,h3⟩)
 refine(zgq w3.heap.size 3 3 [(46,#[.pointer (some ⟨w.heap.size,0,none⟩)]),(61,#[.pointer (some ⟨w.heap.size+2+2,0,none⟩),.pointer (some ⟨w.heap.size+2,0,none⟩),.pointer (some ⟨w.heap.size+2+1,0,none⟩)]),(61,#[.pointer (some ⟨w.heap.size+6+2,0,none⟩),.pointer (some ⟨w.heap.size+6,0,none⟩),.pointer (some ⟨w.heap.size+6+1,0,none⟩)])] I E w4 rfl (by decide) ?_ ?_ ?_).mono ?_
 ·intro i f W hf hi
  rw[hI]at hi
  match i,hf with
  |0,hf=>injection hf with hf;subst hf;exact hi.1.cell r0 (fun e=>by cases e)
  |1,hf=>injection hf with hf;subst hf;exact hi.1.cell r1 (fun e=>by cases e)
  |2,hf=>injection hf with hf;subst hf;exact hi.1.cell r2 (fun e=>by cases e)
 ·intro i f hf
  match i,hf with
  |0,hf=>injection hf with hf;subst hf;exact a0
  |1,hf=>injection hf with hf;subst hf;exact a1
  |2,hf=>injection hf with hf;subst hf;exact a2
 ·rw[hI];exact⟨zaY _ _,⟨fun h=>absurd h (by decide),fun h=>absurd h (by decide),fun h=>absurd h (by decide)⟩,trivial⟩
 ·rintro e w' (⟨rfl,h⟩|⟨d,x,rfl,h⟩)
  ·rw[hI]at h
   obtain⟨hg,⟨o1,o2,o3⟩,_⟩:=h
   exact⟨_,rfl,.inl ⟨firstN_ok (o1 (by decide)) (o2 (by decide)) (o3 (by decide)),rfl⟩,hb4.grown hg hb4.size (fun b e=>by cases e)⟩
  ·rw[hE]at h
   exact⟨_,rfl,h.1,hb4.grown h.2 hb4.size (fun b e=>by cases e)⟩
theorem sign_last (text:ByteArray) (w w3:World) (hb:Below w.heap.size w w3) (hu:UnlAt w3 (w.heap.size+1) 2 zge 49 #[] #[.pointer (some ⟨w.heap.size,0,none⟩)]) (ht:w3.cell? ⟨w.heap.size,0,none⟩=some (.string text)):
  Calls Tryz.prog 19 #[.slice (some ⟨w3.heap.size,0,none⟩) 1 1] (w3.alloc (.cells #[unlV (w.heap.size+1)] 50)) (FTells (if 4096<text.size then 2 else 0) w3):=by
 obtain⟨w4,hw4⟩: ∃W,W=w3.alloc (.cells #[unlV (w.heap.size+1)] 50):=⟨_,rfl⟩
 have hb4:Below w3.heap.size w3 w4:=by rw[hw4];exact zad _ _
 have r0:w4.cell? ⟨w3.heap.size,0,none⟩=some (unlV (w.heap.size+1)):=by rw[hw4];simp
 rw[←hw4]
 have h4:=hu.below hb4
 have t4:=(hb4.cell (zaa ht)).trans ht
 obtain⟨I,hI⟩: ∃I:Nat→World→Prop,I=fun i W=>w4.grownBy W none∧(0<i→text.size≤4096):=⟨_,rfl⟩
 obtain⟨E,hE⟩: ∃E:Value→World→Prop,E=fun v W=> ¬text.size≤4096∧WErr 2 v W∧w4.grownBy W none:=⟨_,rfl⟩
 have hU: ∀W,w4.grownBy W none→UnlAt W (w.heap.size+1) 2 zge 49 #[] #[.pointer (some ⟨w.heap.size,0,none⟩)]:=fun W hg=>h4.grown hg (fun e=>by cases e) (fun e=>by cases e) (fun e=>by cases e)
 refine(zgq w3.heap.size 1 1 [(61,#[.pointer (some ⟨w.heap.size+1+2,0,none⟩),.pointer (some ⟨w.heap.size+1,0,none⟩),.pointer (some ⟨w.heap.size+1+1,0,none⟩)])] I E w4 rfl (by decide) ?_ ?_ ?_).mono ?_
 ·intro i f W hf hi
  rw[hI]at hi
  match i,hf with
  |0,hf=>injection hf with hf;subst hf;exact hi.1.cell r0 (fun e=>by cases e)
 ·intro i f hf
  match i,hf with
  |0,hf=>
   injection hf with hf;subst hf
   refine ErrAsk.unl (w.heap.size+1) 2 zge 49 #[] #[.pointer (some ⟨w.heap.size,0,none⟩)] (decide (text.size≤4096)) (I 0) (I (0+1)) E (fun W=>w4.grownBy W none) (by decide) entShort ?_ hU (fun W W' hg hb=>hg.trans (zaX hb none)) ?_ ?_ ?_
   ·rw[hI];rintro W ⟨hg,_⟩;exact hU W hg
   ·rw[hI];rintro W ⟨hg,_⟩
    refine(zlW text w.heap.size W (hg.cell t4 (fun e=>by cases e))).mono ?_
    rintro e w' ⟨rfl,rfl⟩
    exact⟨rfl,hg⟩
   ·rw[hI];rintro h W hg;exact⟨hg,fun _=>of_decide_eq_true h⟩
   ·rw[hE];rintro h W b' hg hc;exact⟨of_decide_eq_false h,zcQ (by decide) hc,hg⟩
 ·rw[hI];exact⟨zaY _ _,fun h=>absurd h (by decide)⟩
 ·rintro e w' (⟨rfl,h⟩|⟨d,x,rfl,h⟩)
  ·rw[hI]at h
   have:=h.2 (by decide)
   exact⟨_,rfl,.inl ⟨if_neg (by omega),rfl⟩,hb4.grown h.1 hb4.size (fun b e=>by cases e)⟩
  ·rw[hE]at h
   have:=h.1
   exact⟨_,rfl,by rw[if_pos (by omega)];exact h.2.1,hb4.grown h.2.2 hb4.size (fun b e=>by cases e)⟩
def SgTells (ks:List KeyM) (kind payload:ByteArray) (w:World) (e:Ending) (w':World):Prop:= ∃t v,e= .returned (.tuple #[.string t,v])∧strL t=(zfk ks kind payload).1∧WErr (zfk ks kind payload).2 v w'∧Below w.heap.size w w'
theorem signM_bad {ks:List KeyM} {kind payload:ByteArray} (h:zcz ks kind payload≠0):zfk ks kind payload=([],zcz ks kind payload):=by
 unfold zcz at h⊢
 unfold zfk
 split
 ·rfl
 ·split
  ·rfl
  ·split
   ·rfl
   ·rename_i h1 h2 h3
    rw[if_neg h1,if_neg h2,if_neg h3]at h
    exact absurd rfl h
theorem first_ok {ks:List KeyM} {kind payload:ByteArray} (h:zcz ks kind payload=0):zbn ks=true∧zbJ (strL kind)=true∧payload.size≤4096:=by
 unfold zcz at h
 split at h
 ·cases h
 ·split at h
  ·cases h
  ·split at h
   ·cases h
   ·rename_i h1 h2 h3
    exact⟨by simpa using h1,by simpa using h2,by omega⟩
theorem signM_good {ks:List KeyM} {kind payload:ByteArray} (h:zcz ks kind payload=0):zfk ks kind payload=if 4096<(zdv (ks.getLastD default) kind payload).length then([],2)else(zdv (ks.getLastD default) kind payload,0):=by
 obtain⟨h1,h2,h3⟩:=first_ok h
 unfold zfk
 rw[if_neg (by rw[h1];decide),if_neg (by rw[h2];decide),if_neg (by omega)]
theorem last_get {ks:List KeyM} {n:Nat} (hn:ks.length=n+1):ks.getLastD default=ks[n]'(by omega):=by
 have hne:ks≠[]:=fun e=>by rw[e]at hn;cases hn
 rw[List.getLastD_eq_getLast?,List.getLast?_eq_getElem?,List.getElem?_eq_getElem (by omega),Option.getD_some]
 congr 1
 omega
theorem UnlAt.belowB {w w':World} {b B:Nat} {no:Int} {found:ByteArray} {q:Nat} {first caps:Array Value} (h:UnlAt w b no found q first caps) (hb:Below B w w') (hlt:b+2<B):UnlAt w' b no found q first caps:=
 ⟨(hb.cell (p:=⟨b+2,0,none⟩) hlt).trans h.1,(hb.cell (p:=⟨b,0,none⟩) (by show b<B;omega)).trans h.2.1,(hb.cell (p:=⟨b+1,0,none⟩) (by show b+1<B;omega)).trans h.2.2⟩
theorem three_of {w w1 w2 w3:World} {A:Option Addr} {n c:Nat} {kind text:ByteArray} (hb1:Below w.heap.size w w1) (hb2:Below (w.heap.size+1) w1 w2) (hb3:Below (w.heap.size+5) w2 w3) (c1:w1.cell? ⟨w.heap.size,0,none⟩=some (.slice A n c)) (k2:w2.cell? ⟨w.heap.size+1,0,none⟩=some (.string kind))
  (u2:UnlAt w2 (w.heap.size+2) 1 wName 47 #[] #[.pointer (some ⟨w.heap.size+1,0,none⟩)]) (k3:w3.cell? ⟨w.heap.size+5,0,none⟩=some (.string text)) (u3:UnlAt w3 (w.heap.size+6) 2 zge 49 #[] #[.pointer (some ⟨w.heap.size+5,0,none⟩)]):Three w w3 A n c kind text:=
 ⟨hb1.trans ((hb2.mono (by omega)).trans (hb3.mono (by omega))),(hb3.cell (p:=⟨w.heap.size,0,none⟩) (by show w.heap.size<_;omega)).trans ((hb2.cell (p:=⟨w.heap.size,0,none⟩) (by show w.heap.size<_;omega)).trans c1),(hb3.cell (p:=⟨w.heap.size+1,0,none⟩) (by show w.heap.size+1<_;omega)).trans k2,u2.belowB hb3 (by omega),k3,u3⟩
theorem Sign_any (ks:List KeyM) (A:Option Addr) (n c:Nat) (kind payload:ByteArray) (w:World) (hn:ks.length=n) (hn9:n≤9223372036854775807) (hnc:n≤c) (hk:KeyOk ks) (hr:RingAt w A ks) (ha:Ask8 w):
  Calls Tryz.prog 9 #[.slice A n c,.string kind,.string payload] w (SgTells ks kind payload w):=by
 have HMN:=Lib.hid (fun(W:World) (h:W.heap.size=w.heap.size+1)=>by have:=zid kind W;simp only[h,Nat.add_assoc,Nat.reduceAdd]at this;exact this)
 have HMS:=Lib.hid (fun(W:World) (h:W.heap.size=w.heap.size+5)=>by have:=zfX payload W;simp only[h,Nat.add_assoc,Nat.reduceAdd]at this;exact this)
 have HF:=Lib.hid (fun(w3:World) (h:Three w w3 A n c kind payload) (hz:w3.heap.size=w.heap.size+9)=>sign_first ks A n c kind payload w w3 h hz hn hn9 hnc hk hr)
 have HA:=Lib.hid ha
 have HR:=Lib.hid hr
 have HN:=Lib.hid hn
 obtain⟨m,hm⟩: ∃m,m=zcz ks kind payload:=⟨_,rfl⟩
 rw[←hm]at HF
 have HM:=Lib.hid hm
 clear ha hr hk hn hm
 go_enter Tryz.func9,Tryz.ntmps9
 go_wp2_with(first
  |(go_at_call 20;(with_reducible refine(zic A n c _).mono ?_);rintro e w1 ⟨rfl,hc1,hz1,hb⟩;have HC1:=Lib.hid hc1;have HZ1:=Lib.hid hz1;have HB1:=Lib.hid hb;clear hb hc1 hz1)
  |(go_at_call 21;(with_reducible refine(HMN.out _ HZ1.out).mono ?_);rintro e w2 ⟨rfl,hk2,hu2,hz2,hb⟩;have HU2:=Lib.hid hu2;have HK2:=Lib.hid hk2;have HZ2:=Lib.hid hz2;have HB2:=Lib.hid hb;clear hb hk2 hu2 hz2)
  |(go_at_call 22;(with_reducible refine(HMS.out _ HZ2.out).mono ?_);rintro e w3 ⟨rfl,hk3,hu3,hz3,hb⟩;have HU3:=Lib.hid hu3;have HK3:=Lib.hid hk3;have HZ3:=Lib.hid hz3;have HB3:=Lib.hid hb;clear hb hk3 hu3 hz3)
  |(go_at_call 19;fail))
 have H3:=Lib.hid (three_of HB1.out HB2.out HB3.out HC1.out HK2.out HU2.out HK3.out HU3.out)
 refine(HF.out _ H3.out HZ3.out).mono ?_
 rintro e w4 ⟨v,rfl,hv,hb⟩
 have HB4:=Lib.hid (H3.out.bel.trans (hb.mono H3.out.bel.size))
 have HV:=Lib.hid hv
 clear hb hv HF HMN HMS HC1 HK2 HU2 HK3 HU3 H3 HB1 HB2 HB3
 by_cases h0:m=0
 case neg=>
  obtain⟨d,x,rfl⟩:=HV.out.iface h0
  have HS:=Lib.hid (signM_bad (ks:=ks) (kind:=kind) (payload:=payload) (by rw[←HM.out];exact h0))
  go_wp2
  go_ret2
  exact⟨_,_,rfl,by rw[HS.out];rfl,by rw[HS.out,←HM.out];exact HV.out,HB4.out⟩
 case pos=>
  subst h0
  obtain rfl:=HV.out.nil
  obtain⟨g1,g2,g3⟩:=first_ok HM.out.symm
  obtain⟨l1,l2,l3⟩:=zbl g1
  obtain⟨n',rfl⟩: ∃k,n=k+1:=⟨n-1,by have:=HN.out;omega⟩
  have hkl:n'<ks.length:=by rw[HN.out];omega
  have HS:=Lib.hid (signM_good (ks:=ks) (kind:=kind) (payload:=payload) HM.out.symm)
  have HLG:=Lib.hid (last_get (ks:=ks) HN.out)
  obtain⟨b,o,rfl,_,c0,c1⟩:=(HR.out.below HB4.out).at hkl
  obtain⟨q1,q2,q3⟩:=l3 _ (List.getElem_mem hkl)
  obtain⟨k,hk⟩: ∃k,k=ks[n']:=⟨_,rfl⟩
  rw[←hk]at c0 c1 q1 q2 q3 HLG
  have HSG:=Lib.hid (sign_any k kind payload w4 q1 g2 (by omega) (by omega) (HA.out.below HB4.out))
  obtain⟨k1,k2⟩:=k
  have hwr:IntKind.i64.wrap (((n'+1:Nat):Int)-1)=(n':Int):=by rw[IntKind.wrap_i64];omega
  have hi0:(0:Int)≤(n':Int):=by omega
  have hi1:(n':Int)<((n'+1:Nat):Int):=by omega
  clear hk hkl HV HN HR g1 l1 l2 l3
  go_wp2_with(first
   |(go_at_call 23;(with_reducible refine HSG.out.mono ?_);rintro e w5 ⟨t,ht,rfl,hb⟩;have HT:=Lib.hid ht;have HB5:=Lib.hid (HB4.out.trans (hb.mono HB4.out.size));clear hb ht HSG)
   |(go_at_call 22;(with_reducible refine(zfX t _).mono ?_);rintro e w6 ⟨rfl,hk6,hu6,hz6,hb⟩;have HL:=Lib.hid (sign_last t _ _ hb hu6 hk6);have HB6:=Lib.hid (HB5.out.trans (hb.mono HB5.out.size));clear hb hk6 hu6 hz6)
   |(go_at_call 19;fail))
  refine HL.out.mono ?_
  rintro e w7 ⟨v,rfl,hv,hb⟩
  have HB7:=Lib.hid (HB6.out.trans (hb.mono HB6.out.size))
  have HV:=Lib.hid hv
  clear hb hv
  by_cases hbig:4096<t.size
  case pos=>
   have hv:=HV.out
   rw[if_pos hbig]at hv
   obtain⟨d,x,rfl⟩:=hv.iface (by decide)
   have HQ:Hid (zfk ks kind payload=([],2)):=Lib.hid (by rw[HS.out,HLG.out,if_pos (by rw[←HT.out,zaQ];exact hbig)])
   have HV2:=Lib.hid hv
   clear hv
   go_wp2
   go_ret2
   exact⟨_,_,rfl,by rw[HQ.out];rfl,by rw[HQ.out];exact HV2.out,HB7.out⟩
  case neg=>
   have hv:=HV.out
   rw[if_neg hbig]at hv
   obtain rfl:=hv.nil
   have HQ:Hid (zfk ks kind payload=(strL t,0)):=Lib.hid (by rw[HS.out,HLG.out,if_neg (by rw[←HT.out,zaQ];exact hbig),HT.out])
   have HV2:=Lib.hid hv
   clear hv
   go_wp2
   go_ret2
   exact⟨_,_,rfl,by rw[HQ.out],by rw[HQ.out];exact HV2.out,HB7.out⟩
theorem sg_46 {n:Int} (h:0≤n∧n<64):sg n≠46:=by unfold sg;split<;>(try split)<;>(try split)<;>(try split)<;>omega
theorem zgf {l:List Int} (h:Bytes l):Byt l:=fun x hx=>h.mem hx
theorem zmY {l:List Int} (h:Bytes l):46 ∉ encL l:=fun hm=>by
 obtain⟨n,h0,h1,e⟩:=zgW l (zgf h) 46 hm
 exact sg_46 ⟨h0,h1⟩ e.symm
theorem zgb {sec h p:List Int} (hh:Bytes h) (hp:Bytes p):cutL (zdJ sec h p)=some (encL h,encL p,encL (macL sec (zeW h p))):=by
 have hd:Bytes (macL sec (zeW h p)):=zbv _
 have e:zdX (zdJ sec h p)=[encL h,encL p,encL (macL sec (zeW h p))]:=by
  have e1:zdJ sec h p=encL h++46::(encL p++46::encL (macL sec (zeW h p))):=by unfold zdJ;rw[show zeW h p=encL h++46::encL p from rfl];simp
  rw[e1,zet _ _ (zmY hh),zet _ _ (zmY hp),zgY _ (zmY hd)]
 unfold cutL
 rw[e]
 exact if_pos ⟨zkc _ (zgf hh),zkc _ (zgf hp),zkc _ (zgf hd)⟩
theorem zjj (a b:ByteArray):zhZ (zbz a) (zbz b)=decide (a=b):=by
 unfold zbz
 rw[zhZ,zdw]
 cases h:decide (a=b)<;>simp
theorem say_alg (kid kind:ByteArray):sayB (zeq kid kind) sAlg sHS=true:=by
 have e:getJ (zeq kid kind) sAlg=some (zbz sHS):=by
  show(if(5:Int)=5 then getL [sAlg,sKid,sTyp] [zbz sHS,zbz kid,zbz kind] sAlg else none)=_
  rw[if_pos rfl,getL,if_pos rfl]
 unfold sayB;rw[e];show zhZ (zbz sHS) _=_;rw[zjj];exact decide_eq_true rfl
theorem say_kid (kid kind t:ByteArray):sayB (zeq kid kind) sKid t=decide (kid=t):=by
 have e:getJ (zeq kid kind) sKid=some (zbz kid):=by
  show(if(5:Int)=5 then getL [sAlg,sKid,sTyp] [zbz sHS,zbz kid,zbz kind] sKid else none)=_
  rw[if_pos rfl,getL,if_neg (by decide),getL,if_pos rfl]
 unfold sayB;rw[e];exact zjj _ _
theorem say_typ (kid kind t:ByteArray):sayB (zeq kid kind) sTyp t=decide (kind=t):=by
 have e:getJ (zeq kid kind) sTyp=some (zbz kind):=by
  show(if(5:Int)=5 then getL [sAlg,sKid,sTyp] [zbz sHS,zbz kid,zbz kind] sTyp else none)=_
  rw[if_pos rfl,getL,if_neg (by decide),getL,if_neg (by decide),getL,if_pos rfl]
 unfold sayB;rw[e];exact zjj _ _
theorem zgm {kid kind:ByteArray} (h1:zbJ (strL kid)=true) (h2:zbJ (strL kind)=true):zai (hdrL kid kind)=(zeq kid kind,0, -1):=by
 have:=parsed_text (zeq kid kind) (zmX h1 h2) (by rw[zej];exact Nat.le_trans (zni h1 h2) (by decide))
 rwa [zej]at this
theorem head_ok {kid kind:ByteArray} (h1:zbJ (strL kid)=true) (h2:zbJ (strL kind)=true):zdi (hdrL kid kind)=true:=by
 unfold zdi
 rw[zgm h1 h2]
 simp[zeq,J.kind,J.k]
theorem zgh {ks:List KeyM} {kind other:ByteArray} {k:KeyM} {payload:List Int} (h1:zbJ (strL k.1)=true) (h2:zbJ (strL kind)=true) (hp:Bytes payload):
  verP ks other (encL (hdrL k.1 kind)) (encL payload) (encL (macL (strL k.2) (zeW (hdrL k.1 kind) payload)))=
   if kind≠other then(([],[],81):List Int×List Int×Int)else match ks.find? (fun q=>decide (k.1=q.1))with
    |none=>([],[],83)
    |some q=>if macL (strL q.2) (zeW (hdrL k.1 kind) payload)=macL (strL k.2) (zeW (hdrL k.1 kind) payload)then(payload,strL q.1,0)else([],[],84):=by
 have d1:=zeX _ (zgf (zdY k.1 kind))
 have d2:=zeX _ (zgf hp)
 have d3:=zeX _ (zgf (show Bytes (macL (strL k.2) (zeW (hdrL k.1 kind) payload))from zbv _))
 unfold verP
 rw[d1,d2,d3,head_ok h1 h2,zgm h1 h2]
 show(if true=false then _ else if sayB (zeq k.1 kind) sAlg sHS=false then _ else if sayB (zeq k.1 kind) sTyp other=false then _ else _)=_
 rw[if_neg (by decide),say_alg,if_neg (by decide),say_typ]
 by_cases ho:kind=other
 ·rw[if_neg (by rw[decide_eq_true ho];decide),if_neg (by simpa using ho)]
  simp only[say_kid]
  rfl
 ·rw[if_pos (decide_eq_false ho),if_pos ho]
theorem zna (a b:List Int):(macL a b).length=32:=zap _
def HeadTells (w:World) (ob:Nat) (xs:List Int) (c0 v1 c2 c3 k0 k1:Value) (e:Ending) (w':World):Prop:=
 w.grownBy w' (some ob)∧ ∃h0 h1 h2 h3 h4,e= .returned (.bool (zdi xs))∧Blk w' ob 65 [c0,v1,c2,c3,h0,h1,h2,h3,h4,k0,k1]∧RepS w' (fun b=>w.heap.size≤b) (zai xs).1 (.agg #[h0,h1,h2,h3,h4])
theorem JErr.ends {n pos:Int} {v:Value} {w:World} (h:JErr n pos v w):(n=0∧v= .nilIface)∨(n≠0∧ ∃d x,v= .iface d x):=by
 rcases h with⟨h,_,e⟩|⟨h,_,e⟩|⟨h,b,e,_⟩
 ·exact .inl ⟨h,e⟩
 ·exact .inr ⟨h,_,_,e⟩
 ·exact .inr ⟨h,_,_,e⟩
theorem hasN_three (n:ByteArray):hasN [sAlg,sKid,sTyp] n=decide (n=sAlg∨n=sKid∨n=sTyp):=by
 rw[Bool.eq_iff_iff,hasN_iff,decide_eq_true_eq];simp
theorem zks (ob:Nat) (xs:List Int) (c0 c2 c3 h0 h1 h2 h3 h4 k0 k1:Value) (A1:Option Addr) (n c:Nat) (w:World) (hbk:Blk w ob 65 [c0,.slice A1 n c,c2,c3,h0,h1,h2,h3,h4,k0,k1]) (hn:xs.length=n) (hn9:n≤9223372036854775807) (hx:Bytes xs) (hl:Lies w A1 xs) (ha:Ask5 w):
  Calls Tryz.prog 31 #[.pointer (some ⟨ob,0,none⟩)] w (HeadTells w ob xs c0 (.slice A1 n c) c2 c3 k0 k1):=by
 have HPT:=Lib.hid (parse_tells A1 xs n c w hn hn9 hx hl ha.marks ha.tab)
 have hob:=hbk.lt
 have HBK:=Lib.hid hbk
 have x1:w.cell? ⟨ob,1,none⟩=some (.slice A1 n c):=hbk.cell 1
 have HSMALL:=Lib.hid (fun h=>zib (l:=xs) h)
 have HOKD:Hid (zdi xs=(decide ((zai xs).2.1=0)&&decide ((zai xs).1.kind=5)&&(zai xs).1.k.all (hasN [sAlg,sKid,sTyp]))):=Lib.hid (by
  unfold zdi
  congr 1
  exact congrArg (fun f=>(zai xs).1.k.all f) (funext fun n=>(hasN_three n).symm))
 unfold HeadTells
 obtain⟨r,hr⟩: ∃r,r=zai xs:=⟨_,rfl⟩
 rw[←hr]at HPT HSMALL HOKD⊢
 obtain⟨j,no,po⟩:=r
 obtain⟨v1,hv1⟩: ∃v:Value,v= .slice A1 n c:=⟨_,rfl⟩
 rw[←hv1]at HBK⊢
 obtain⟨R,hR⟩: ∃R,R=zdi xs:=⟨_,rfl⟩
 rw[←hR]at HOKD⊢
 clear hbk hr hl hx ha hn hR
 go_enter Tryz.func31,Tryz.ntmps31
 go_wp2_with(go_at_call 64;fail)
 refine HPT.out.mono ?_
 rintro e w1 ⟨v,ev,rfl,hrep,herr,hb⟩
 obtain⟨vk,A4,c4,rfl, -,hkk, -, -⟩:=RepJ.open (RepS.toJ _ _ hrep)
 have HKK:=Lib.hid hkk
 obtain⟨K4,d4,rfl, -, -⟩:=hkk.open
 have HRP:=Lib.hid hrep
 have HLT1:=Lib.hid (Nat.lt_of_lt_of_le hob hb.size)
 have HOB1:=Lib.hid (HBK.out.below hb hob)
 have HB1:=Lib.hid hb
 have HGA:Hid (∀g3 w2 w3 w5,w1.grownBy w2 none→w2.grownBy w3 (some g3)→w1.heap.size≤g3→w3.grownBy w5 (some ob)→w.grownBy w5 (some ob)∧RepS w5 (fun b=>w.heap.size≤b) j (.agg #[.int .i64 j.kind,.int .i64 j.n,.string j.s,.slice A4 j.l.length c4,.slice K4 j.k.length d4])):=Lib.hid (fun g3 w2 w3 w5 e2 e3 e4 e5=>by
  have k2:=RepS.keeps (Keeps.grown e2 (fun b _ e=>by cases e)) (fun b h hlt=>And.intro h hlt) _ _ hrep
  have k3:=RepS.keeps (Keeps.grown e3 (fun b hb e=>by injection e with e;have:=hb.2;omega)) (fun _ h _=>h) _ _ k2
  have k5:=RepS.keeps (Keeps.grown e5 (fun b hb e=>by injection e with e;have:=hb.1;omega)) (fun b h _=>h.1) _ _ k3
  refine⟨?_,k5⟩
  have b12:Below w.heap.size w w2:=hb.grown e2 hb.size (fun b e=>by cases e)
  have b13:Below w.heap.size w w3:=b12.grown e3 b12.size (fun b e=>by injection e with e;have:=hb.size;omega)
  exact((zaX b13 none).but _).trans e5)
 have hje:=herr.ends
 clear hrep hkk hb herr HPT HBK x1 hv1
 rcases hje with⟨rfl,rfl⟩|⟨hno,d,x,rfl⟩
 case inr=>
  have HF:Hid (R=false):=Lib.hid (by rw[HOKD.out,decide_eq_false hno];rfl)
  go_wp2_with(first
   |(refine zaK rfl (some 3) rfl _ rfl _ zeroJw ?_;intro g3 w2 hg3 hb3 hgr;have HG2:=Lib.hid hgr;have HG3:=Lib.hid hg3;clear hgr hg3;try go_frame)
   |(refine zac rfl none rfl _ (.tmp 3) (.tmp 12) rfl g3 0 [.int .i64 j.kind,.int .i64 j.n,.string j.s,.slice A4 j.l.length c4,.slice K4 j.k.length d4] rfl rfl _ _ hb3 (by simp[zeros5]) zau (by intro v hv;simp at hv;rcases hv with rfl|rfl|rfl|rfl|rfl<;>rfl) ?_;intro w3 hb4 hgr;rw[zah _ _ (by simp[zeros5])]at hb4;have HG4:=Lib.hid hgr;have hob3:=((HOB1.out.grownN HG2.out).grown hgr (fun e=>by injection e with e;have:=HG3.out;have:=HLT1.out;omega));have HBK4:=Lib.hid hb4;clear hgr hb3;try go_frame)
   |(refine zae rfl (some 15) rfl _ (.tmp 3) rfl g3 0 rfl _ _ hb4 [.int .i64 j.kind,.int .i64 j.n,.string j.s,.slice A4 j.l.length c4,.slice K4 j.k.length d4] (fun i v hv=>by rw[Nat.zero_add];exact hv) _ Tryz.underlying63 rfl zau ?_;try go_frame)
   |(refine zac rfl none rfl _ (.tmp 17) (.tmp 15) rfl ob 4 [.int .i64 j.kind,.int .i64 j.n,.string j.s,.slice A4 j.l.length c4,.slice K4 j.k.length d4] rfl rfl _ _ hob3 (by simp) zau (by intro v hv;simp at hv;rcases hv with rfl|rfl|rfl|rfl|rfl<;>rfl) ?_;intro w5 hb6 hgr;have HB6:Hid (Blk w5 ob 65 [c0,v1,c2,c3,.int .i64 j.kind,.int .i64 j.n,.string j.s,.slice A4 j.l.length c4,.slice K4 j.k.length d4,k0,k1]):=Lib.hid hb6;have HG5:=Lib.hid hgr;have hne3:some g3≠some ob:=(fun e=>by injection e with e;have:=HG3.out;have:=HLT1.out;omega);have y:=(HBK4.out.grown hgr hne3);have y0:w5.cell? ⟨g3,0,none⟩=some (.int .i64 j.kind):=y.cell 0;have y4:w5.cell? ⟨g3,4,none⟩=some (.slice K4 j.k.length d4):=y.cell 4;clear hgr hb6 hb4 hob3 y hne3;try go_frame))
  go_ret
  obtain⟨g1,g2⟩:=HGA.out _ _ _ _ HG2.out HG4.out HG3.out HG5.out
  exact⟨g1,_,_,_,_,_,by rw[HF.out];rfl,HB6.out,g2⟩
 case inl=>
  obtain⟨hsm,hks⟩:=HSMALL.out rfl
  by_cases h5:j.kind=5
  case neg=>
   have HF:Hid (R=false):=Lib.hid (by rw[HOKD.out,decide_eq_false h5];rfl)
   have b5:(j.kind==5)=false:=by rw[beq_eq_false_iff_ne];exact h5
   clear h5
   go_wp2_with(first
   |(refine zaK rfl (some 3) rfl _ rfl _ zeroJw ?_;intro g3 w2 hg3 hb3 hgr;have HG2:=Lib.hid hgr;have HG3:=Lib.hid hg3;clear hgr hg3;try go_frame)
   |(refine zac rfl none rfl _ (.tmp 3) (.tmp 12) rfl g3 0 [.int .i64 j.kind,.int .i64 j.n,.string j.s,.slice A4 j.l.length c4,.slice K4 j.k.length d4] rfl rfl _ _ hb3 (by simp[zeros5]) zau (by intro v hv;simp at hv;rcases hv with rfl|rfl|rfl|rfl|rfl<;>rfl) ?_;intro w3 hb4 hgr;rw[zah _ _ (by simp[zeros5])]at hb4;have HG4:=Lib.hid hgr;have hob3:=((HOB1.out.grownN HG2.out).grown hgr (fun e=>by injection e with e;have:=HG3.out;have:=HLT1.out;omega));have HBK4:=Lib.hid hb4;clear hgr hb3;try go_frame)
   |(refine zae rfl (some 15) rfl _ (.tmp 3) rfl g3 0 rfl _ _ hb4 [.int .i64 j.kind,.int .i64 j.n,.string j.s,.slice A4 j.l.length c4,.slice K4 j.k.length d4] (fun i v hv=>by rw[Nat.zero_add];exact hv) _ Tryz.underlying63 rfl zau ?_;try go_frame)
   |(refine zac rfl none rfl _ (.tmp 17) (.tmp 15) rfl ob 4 [.int .i64 j.kind,.int .i64 j.n,.string j.s,.slice A4 j.l.length c4,.slice K4 j.k.length d4] rfl rfl _ _ hob3 (by simp) zau (by intro v hv;simp at hv;rcases hv with rfl|rfl|rfl|rfl|rfl<;>rfl) ?_;intro w5 hb6 hgr;have HB6:Hid (Blk w5 ob 65 [c0,v1,c2,c3,.int .i64 j.kind,.int .i64 j.n,.string j.s,.slice A4 j.l.length c4,.slice K4 j.k.length d4,k0,k1]):=Lib.hid hb6;have HG5:=Lib.hid hgr;have hne3:some g3≠some ob:=(fun e=>by injection e with e;have:=HG3.out;have:=HLT1.out;omega);have y:=(HBK4.out.grown hgr hne3);have y0:w5.cell? ⟨g3,0,none⟩=some (.int .i64 j.kind):=y.cell 0;have y4:w5.cell? ⟨g3,4,none⟩=some (.slice K4 j.k.length d4):=y.cell 4;clear hgr hb6 hb4 hob3 y hne3;try go_frame))
   go_ret
   obtain⟨g1,g2⟩:=HGA.out _ _ _ _ HG2.out HG4.out HG3.out HG5.out
   exact⟨g1,_,_,_,_,_,by rw[HF.out];rfl,HB6.out,g2⟩
  case pos=>
   have b5:(j.kind==5)=true:=by rw[h5];rfl
   have HKS:=Lib.hid (hks h5)
   have HF:Hid (R=j.k.all (hasN [sAlg,sKid,sTyp])):=Lib.hid (by rw[HOKD.out,decide_eq_true h5];rfl)
   clear hks hsm HSMALL HOKD h5
   go_wp2_with(first
   |(refine zaK rfl (some 3) rfl _ rfl _ zeroJw ?_;intro g3 w2 hg3 hb3 hgr;have HG2:=Lib.hid hgr;have HG3:=Lib.hid hg3;clear hgr hg3;try go_frame)
   |(refine zac rfl none rfl _ (.tmp 3) (.tmp 12) rfl g3 0 [.int .i64 j.kind,.int .i64 j.n,.string j.s,.slice A4 j.l.length c4,.slice K4 j.k.length d4] rfl rfl _ _ hb3 (by simp[zeros5]) zau (by intro v hv;simp at hv;rcases hv with rfl|rfl|rfl|rfl|rfl<;>rfl) ?_;intro w3 hb4 hgr;rw[zah _ _ (by simp[zeros5])]at hb4;have HG4:=Lib.hid hgr;have hob3:=((HOB1.out.grownN HG2.out).grown hgr (fun e=>by injection e with e;have:=HG3.out;have:=HLT1.out;omega));have HBK4:=Lib.hid hb4;clear hgr hb3;try go_frame)
   |(refine zae rfl (some 15) rfl _ (.tmp 3) rfl g3 0 rfl _ _ hb4 [.int .i64 j.kind,.int .i64 j.n,.string j.s,.slice A4 j.l.length c4,.slice K4 j.k.length d4] (fun i v hv=>by rw[Nat.zero_add];exact hv) _ Tryz.underlying63 rfl zau ?_;try go_frame)
   |(refine zac rfl none rfl _ (.tmp 17) (.tmp 15) rfl ob 4 [.int .i64 j.kind,.int .i64 j.n,.string j.s,.slice A4 j.l.length c4,.slice K4 j.k.length d4] rfl rfl _ _ hob3 (by simp) zau (by intro v hv;simp at hv;rcases hv with rfl|rfl|rfl|rfl|rfl<;>rfl) ?_;intro w5 hb6 hgr;have HB6:Hid (Blk w5 ob 65 [c0,v1,c2,c3,.int .i64 j.kind,.int .i64 j.n,.string j.s,.slice A4 j.l.length c4,.slice K4 j.k.length d4,k0,k1]):=Lib.hid hb6;have HG5:=Lib.hid hgr;have hne3:some g3≠some ob:=(fun e=>by injection e with e;have:=HG3.out;have:=HLT1.out;omega);have y:=(HBK4.out.grown hgr hne3);have y0:w5.cell? ⟨g3,0,none⟩=some (.int .i64 j.kind):=y.cell 0;have y4:w5.cell? ⟨g3,4,none⟩=some (.slice K4 j.k.length d4):=y.cell 4;clear hgr hb6 hb4 hob3 y hne3;try go_frame)
   |(go_at_call 65;fail))
   obtain⟨g1,g2⟩:=HGA.out _ _ _ _ HG2.out HG4.out HG3.out HG5.out
   obtain⟨vk,A9,c9,e9, -,hk9, -, -⟩:=RepJ.open (RepS.toJ _ _ g2)
   have e9:=congrArg (fun v=>match v with| .agg cs=>cs.getD 4 .nilIface|_=> .nilIface) e9
   replace e9:Value.slice K4 j.k.length d4=vk:=e9
   subst e9
   obtain⟨A8,c8,e8,hkl,hkc⟩:=hk9
   injection e8 with e8 _ e8'
   subst e8;subst e8'
   have hbn:=zad w5 (.cells #[.string ⟨#[97,108,103]⟩,.string ⟨#[107,105,100]⟩,.string ⟨#[116,121,112]⟩] 9)
   have hln:LiesN w5 K4 j.k:=fun hne=>by
    obtain⟨b,o,e,hlt,hcs⟩:=hkc hne
    refine⟨b,o,e,hlt,fun i x hi=> ?_⟩
    obtain⟨t,h1,_,h2⟩:=hcs i (List.getElem?_eq_some_iff.1 hi).1
    rw[hi]at h1
    injection h1 with h1
    rw[h1];exact h2
   have hsl:SliceN (w5.alloc (.cells #[.string ⟨#[97,108,103]⟩,.string ⟨#[107,105,100]⟩,.string ⟨#[116,121,112]⟩] 9)) (.slice (some ⟨w5.heap.size,0,none⟩) 3 3) [sAlg,sKid,sTyp]:=by
    refine⟨_,3,rfl,by decide,fun _=>⟨_,0,rfl,by simp,fun i x hi=> ?_⟩,fun x hx=> ?_⟩
    ·rw[Nat.zero_add,World.cell?_alloc_new]
     match i,hi with
     |0,hi=>injection hi with hi;subst hi;rfl
     |1,hi=>injection hi with hi;subst hi;rfl
     |2,hi=>injection hi with hi;subst hi;rfl
    ·simp at hx;rcases hx with rfl|rfl|rfl<;>decide
   have HWI:=Lib.hid (within_lies K4 d4 _ j.k [sAlg,sKid,sTyp] _ (hln.below hbn) HKS.out.2 hsl (by have:=HKS.out.1;omega) (by decide))
   rw[←HF.out]at HWI
   have HGW:=Lib.hid (And.intro g1 g2)
   have HBN:=Lib.hid hbn
   clear g1 g2 hkl hkc hbn hln hsl HF
   refine HWI.out.mono ?_
   rintro e w6 ⟨rfl,hb⟩
   have HBW:=Lib.hid (HBN.out.trans (hb.mono HBN.out.size))
   clear hb HWI
   go_wp2
   go_ret
   exact⟨HGW.out.1.trans ((zaX HBW.out none).but _),_,_,_,_,_,rfl,HB6.out.below HBW.out HB6.out.lt,RepS.keeps (Keeps.grown (zaX HBW.out none) (fun b _ e=>by cases e)) (fun _ h _=>h) _ _ HGW.out.2⟩
end Go.Proofs.YtceddodfddlncaaGreatDoor
