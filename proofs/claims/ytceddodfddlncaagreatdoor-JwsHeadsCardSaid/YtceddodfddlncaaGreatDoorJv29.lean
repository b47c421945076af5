
import Derived.Test.YtceddodfddlncaaGreatDoorRows
import Derived.ProofKit
import Derived.LaidMore
import Derived.LaidHandle
import Derived.LaidLaws
import Derived.Lay
import Derived.OpenShut
import Derived.Stop.Joined
import Derived.Deep.DeepHandedRow
import Derived.ChangeMaps5
import Derived.Lib.SlBytesConst
import Derived.Test.YtceddodfddlncaaGreatDoorJv28
set_option maxRecDepth 100000
set_option maxHeartbeats 16000000
set_option linter.all false
namespace Go.Proofs.YtceddodfddlncaaGreatDoor
open Go Go.RowKit Go.Proofs.Tryz
def jX:=@of_decide_eq_false
def kr:=@List.all_eq_true
def ky:=@List.mem_of_find?_eq_some
def JErr (n pos:Int) (v:Value) (w:World):Prop:=
 (n=0∧pos= -1∧v= .nilIface)∨(n≠0∧pos= -1∧v= .iface 54 (.int .i64 n))∨(n≠0∧ ∃b,v= .iface 188 (.pointer (some ⟨b,0,none⟩))∧w.cell? ⟨b,0,none⟩=some (.int .i64 pos)∧w.cell? ⟨b,1,none⟩=some (.iface 54 (.int .i64 n)))
theorem sf (l:List Int):((nN l).2.1=0→(nN l).2.2= -1)∧((nN l).2.1≠0→(nN l).1=zeroJ):=by
 unfold nN pR
 split
 ·exact⟨fun h=>(by cases h),fun _=>rfl⟩
 ·split
  ·rename_i q;exact⟨fun h=>absurd h q,fun _=>rfl⟩
  ·split
   ·exact⟨fun h=>(by cases h),fun _=>rfl⟩
   ·exact⟨fun _=>rfl,fun h=>absurd rfl h⟩
def LU (W:World) (r:J×Int×Int) (e:Ending) (w':World):Prop:=
 ∃v ev,e= .returned (.tuple #[v,ev])∧RepS w' (fun b=>W.heap.size≤b) r.1 v∧JErr r.2.1 r.2.2 ev w'∧Below W.heap.size W w'
theorem uk (A:Option Addr) (xs:List Int) (n c:Nat) (W:World) (L:xs.length=n) (I:n≤9223372036854775807) (D:Bytes xs) (N:Lies W A xs) (M:Marks W) (E:ErrTab W):
  Calls prog 64 #[.slice A n c] W (LU W (nN xs)):=by
 obtain⟨O,B⟩:=sf xs
 refine(Aw A xs n c W L I D N M E).mono ?_
 rintro e w' G
 rcases G with(⟨h0,v,rfl,F,q⟩|⟨h0,b,rfl,c0,c1,_,q⟩)|⟨h0,h1,rfl,q⟩
 ·exact⟨v,_,rfl,F,.inl ⟨h0,O h0,rfl⟩,q⟩
 ·exact⟨_,_,rfl,by rw[B h0];exact RepS.zero _ _,.inr (.inr ⟨h0,b,rfl,c0,c1⟩),q⟩
 ·exact⟨_,_,rfl,by rw[B h0];exact RepS.zero _ _,.inr (.inl ⟨h0,h1,rfl⟩),q⟩
structure Ask5 (w:World):Prop where
 tab:ErrTab w
 marks:Marks w
theorem Ask5.below {w w':World} (h:Ask5 w) (q:Below w.heap.size w w'):Ask5 w':=⟨h.tab.below q,h.marks.below q⟩
theorem Gv {c:Int} (h:pu c=true):45≤c∧c≤122∧c≠92:=by
 unfold pu at h
 have:=fG h
 omega
theorem xE {l:List Int} (h:oG l=true): ∀c∈l,45≤c∧c≤122∧c≠92:=by
 unfold oG at h
 rw[fb,kr]at h
 exact fun c q=>Gv (h.2 c q)
theorem Ma {s:ByteArray} (h:oG (a_ s)=true):pX (a_ s)=34::(a_ s++[34]):=by
 rw[qN,yY _ fun c q=>by
  have:=xE h c q
  unfold oZ
  rw[dN (by omega),dN (by omega)]]
theorem Dc {q kind:ByteArray} (h1:oG (a_ q)=true) (B:oG (a_ kind)=true):(ow q kind).length≤100:=by
 have E:=Hk h1
 have D:=Hk B
 unfold ow B2 Gi
 rw[Ma h1,Ma B]
 simp only[dS,eu,fO,j_]
 omega
theorem K8 (q kind:ByteArray):Bytes (ow q kind):=by rw[←Lj];exact BZ _
theorem yo (t I:ByteArray) (M L:Int) (G F:Option Addr) (B E q D:Nat):prog.built 133 [(0,.string t),(1,.agg #[.int .i64 M,.int .i64 L,.string I,.slice G B E,.slice F q D])]=some #[.string t,.int .i64 M,.int .i64 L,.string I,.slice G B E,.slice F q D]:=by kernel_rfl
theorem Kz (w:World) (t I:ByteArray) (M L:Int) (G F:Option Addr) (B E q D:Nat):(Instr.build 133 #[(0,.string t),(1,.agg #[.int .i64 M,.int .i64 L,.string I,.slice G B E,.slice F q D])]).run prog w= .ok (.agg #[.string t,.int .i64 M,.int .i64 L,.string I,.slice G B E,.slice F q D]) w:=run_build w 133 _ _ (yo t I M L G F B E q D)
abbrev qt (n t:ByteArray):List Value:=[.string n,.int .i64 3,.int .i64 0,.string t,.slice none 0 0,.slice none 0 0]
theorem N2 {o:Oper} {a:Act} {w:World} {K:Act→World→Prop} {Q:Exit→Act→World→Prop} (D:Array (Nat×Operand)) (N:o.op= .buildSlice 174 3 D) (G B F q E t3:ByteArray)
  (M:(D.map fun(i,x)=>(i,a.eval x)).toList=[(0,.agg (qt G B).toArray),(1,.agg (qt F q).toArray),(2,.agg (qt E t3).toArray)])
  (h:K (a.put o.dst (.slice (some ⟨w.heap.size,0,none⟩) 3 3)) (w.alloc (.cells (qt G B++qt F q++qt E t3).toArray 133))):o.wp prog a w K Q:=by
 obtain⟨L,R,O,I,U⟩:=gw sr
 refine wp_buildSlice 174 133 3 D N (qt G B++qt F q++qt E t3).toArray L _ ib R O (by rw[I];decide) (by rw[I];decide) ?_ h
 rw[I,M]
 kernel_rfl
def LO (kid kind:ByteArray):List MC:=[⟨sAlg,.int .i64 3,.int .i64 0,.string sHS,.slice none 0 0,.slice none 0 0⟩,⟨sKid,.int .i64 3,.int .i64 0,.string kid,.slice none 0 0,.slice none 0 0⟩,⟨sTyp,.int .i64 3,.int .i64 0,.string kind,.slice none 0 0,.slice none 0 0⟩]
theorem K0 (t:ByteArray) (W:World) (S:Nat→Prop) (q:t.size≤9223372036854775807):RepS W S (oY t) (.agg #[.int .i64 3,.int .i64 0,.string t,.slice none 0 0,.slice none 0 0]):=by
 rw[oY,RepS]
 exact⟨_,none,0,rfl,q,⟨none,0,rfl,by simp,fun h=>absurd rfl h⟩,by simp,fun h=>absurd rfl h⟩
theorem EZ (q kind:ByteArray) (W:World) (S:Nat→Prop) (h1:q.size≤9223372036854775807) (B:kind.size≤9223372036854775807):FlatM W S (FW q kind) (LO q kind):=
 ⟨_,_,rfl,rfl,by decide,K0 _ _ _ (by decide),_,_,rfl,rfl,by show sKid.size≤_;decide,K0 _ _ _ h1,_,_,rfl,rfl,by show sTyp.size≤_;decide,K0 _ _ _ B,rfl⟩
theorem GJ (B kind:ByteArray) (w:World):RowM (w.alloc (.cells (qt sAlg sHS++qt sKid B++qt sTyp kind).toArray 133)) (.slice (some ⟨w.heap.size,0,none⟩) 3 3) (LO B kind):=by
 refine .inr ⟨w.heap.size,3,rfl,by simp,fun j D i u q=> ?_⟩
 rw[j6]
 have hi:i<6:=by
  have:=(eP.1 q).1
  simpa[og]using this
 match j,D with
 |0,_=>match i,hi with
  |0,_=>exact q|1,_=>exact q|2,_=>exact q|3,_=>exact q|4,_=>exact q|5,_=>exact q
 |1,_=>match i,hi with
  |0,_=>exact q|1,_=>exact q|2,_=>exact q|3,_=>exact q|4,_=>exact q|5,_=>exact q
 |2,_=>match i,hi with
  |0,_=>exact q|1,_=>exact q|2,_=>exact q|3,_=>exact q|4,_=>exact q|5,_=>exact q
theorem IW {F kind:ByteArray}:Bw (FW F kind):=by
 have E: ¬sAlg=sKid:=by decide
 have D: ¬sAlg=sTyp:=by decide
 have B: ¬sKid=sTyp:=by decide
 refine⟨by show 3≤256;decide,by simp[FW,E,D,B],fun m q=> ?_⟩
 have G: ∀t:ByteArray,Sm (oY t):=fun t=> .mk (by simp) (by simp) (by simp)
 simp[FW]at q
 rcases q with rfl|rfl|rfl<;>exact G _
theorem ErrAsk.unl (b:Nat) (no:Int) (F:ByteArray) (q:Nat) (first B:Array Value) (r:Bool) (I J:World→Prop) (E:Value→World→Prop) (R:World→Prop) (Q:no≠0)
  (U: ∀args w,(callFunc q args).run prog w= .ok (.enter q args) w) (Y: ∀W,I W→UnlAt W b no F q first B) (M: ∀W,R W→UnlAt W b no F q first B) (V: ∀W N,R W→Below W.heap.size W N→R N)
  (O: ∀W,I W→Calls prog q (first++B) W fun e w'=>e= .returned (.bool r)∧R w') (X:r=true→ ∀W,R W→J W)
  (Z:r=false→ ∀W G,R W→W.cell? ⟨G,0,none⟩=some (.iface 54 (.int .i64 no))→E (.iface 97 (.pointer (some ⟨G,0,none⟩))) W):
  ErrAsk 61 #[.pointer (some ⟨b+2,0,none⟩),.pointer (some ⟨b,0,none⟩),.pointer (some ⟨b+1,0,none⟩)] I J E where
 enters:=gJ kg (by kernel_rfl) rfl
 call:=fun W L=>by
  obtain⟨u5,u3,u4⟩:=Y W L
  refine(tC (b+2) b (b+1) no F q first B r R W Q u5 u3 u4 U V ((O W L).mono ?_)).mono ?_
  ·rintro e w' ⟨rfl,h⟩
   exact⟨rfl,h,(M _ h).2.1,(M _ h).2.2⟩
  ·rintro e w' (⟨h1,rfl,D⟩|⟨h1,G,rfl,D,h3⟩)
   ·exact .inl ⟨rfl,X h1 _ D⟩
   ·exact .inr ⟨_,_,rfl,Z h1 _ _ h3 D⟩
structure Ask8 (w:World):Prop where
 ask:Ask5 w
 tabs:Tabs w
 maxl:MaxLW w
theorem Ask8.below {w w':World} (h:Ask8 w) (q:Below w.heap.size w w'):Ask8 w':=⟨h.ask.below q,h.tabs.below q,h.maxl.below q⟩
def rE (ks:List mV) (kind text:ByteArray):Int:=if o9 ks=false then 83 else if oG (a_ kind)=false then 1 else if 4096<text.size then 2 else 0
structure Three (w w4:World) (A:Option Addr) (n c:Nat) (kind text:ByteArray):Prop where
 bel:Below w.heap.size w w4
 ring:w4.cell? ⟨w.heap.size,0,none⟩=some (.slice A n c)
 kd:w4.cell? ⟨w.heap.size+1,0,none⟩=some (.string kind)
 un:UnlAt w4 (w.heap.size+2) 1 qd 47 #[] #[.pointer (some ⟨w.heap.size+1,0,none⟩)]
 tx:w4.cell? ⟨w.heap.size+5,0,none⟩=some (.string text)
 us:UnlAt w4 (w.heap.size+6) 2 DZ 49 #[] #[.pointer (some ⟨w.heap.size+5,0,none⟩)]
theorem E9: ∀args w,(callFunc 47 args).run prog w= .ok (.enter 47 args) w:=gJ func47 (by kernel_rfl) rfl
theorem vw: ∀args w,(callFunc 49 args).run prog w= .ok (.enter 49 args) w:=gJ func49 (by kernel_rfl) rfl
def vZ (ks:List mV) (kind text:ByteArray) (i:Nat):Prop:=(0<i→o9 ks=true)∧(1<i→oG (a_ kind)=true)∧(2<i→text.size≤4096)
theorem wK (ks:List mV) (A:Option Addr) (n c:Nat) (kind Z:ByteArray) (B:World) (p:Nat) (L:B.cell? ⟨p,0,none⟩=some (.slice A n c)) (Q:ks.length=n) (O:n≤9223372036854775807) (N:n≤c) (R:KeyOk ks) (hr:RingAt B A ks)
  (I:Nat→World→Prop) (E:Value→World→Prop) (row:Option Nat) (X: ∀W,I 0 W→B.grownBy W row∧RingAt W A ks∧some p≠row)
  (V:o9 ks=true→ ∀W q,I 0 W→Below W.heap.size W q→I 1 q) (Y:o9 ks=false→ ∀W q,I 0 W→Below W.heap.size W q→E (.iface 54 (.int .i64 83)) q):
  ErrAsk 46 #[.pointer (some ⟨p,0,none⟩)] (I 0) (I 1) E where
 enters:=gJ func46 (by kernel_rfl) rfl
 call:=fun W D=>by
  obtain⟨U,G,M⟩:=X W D
  refine(Ah ks A n c p W (U.cell L M) Q O N R G).mono ?_
  rintro e w' ⟨rfl,F⟩
  cases h:o9 ks with
  |true=>rw[dP rfl];exact .inl ⟨rfl,V h W w' D F⟩
  |false=>rw[dN (by decide)];exact .inr ⟨_,_,rfl,Y h W w' D F⟩
theorem yk (s:ByteArray) (c d:Nat) (A K:Option Addr) (W:World):
  Calls prog 170 #[.agg #[.int .i64 3,.int .i64 0,.string s,.slice A 0 c,.slice K 0 d]] W fun e w'=>e= .returned (.bool true)∧Below W.heap.size W w':=by
 have q:Hid (∀cs:Array Value,Below W.heap.size W (W.alloc (.cells cs 63))):=dM fun cs=>(dU _ _).alloc (dQ _) _
 go_enter func170,ntmps170
 go_wp2
 go_ret
 exact⟨by first|rfl|simp,by first|exact q.out _|exact Hm (q.out _) _ _ _ (dQ _)|exact Hm (Hm (q.out _) _ _ _ (dQ _)) _ _ _ (dQ _)⟩
theorem Bi (p q c d:Nat) (A K:Option Addr) (W:World):
  Calls prog 170 #[.agg #[.int .i64 5,.int .i64 0,.string ⟨#[]⟩,.slice A p c,.slice K q d]] W fun e w'=>e= .returned (.bool true)∧Below W.heap.size W w':=by
 have B:Hid (∀cs:Array Value,Below W.heap.size W (W.alloc (.cells cs 63))):=dM fun cs=>(dU _ _).alloc (dQ _) _
 have D:((⟨#[]⟩:ByteArray).toList==[])=true:=by rw[eT];rfl
 go_enter func170,ntmps170
 go_wp2
 go_ret
 exact⟨by first|rfl|simp,by first|exact B.out _|exact Hm (B.out _) _ _ _ (dQ _)|exact Hm (Hm (B.out _) _ _ _ (dQ _)) _ _ _ (dQ _)⟩
theorem Lh (s:ByteArray) (hs:s.size≤1000000000):G1 (oY s):=fun d left W0 w v D hj hb au O h0 h1 d1 d9 hm=>by
 obtain⟨vk,A,c,rfl,_,ah,hl,hc⟩:=hj.open
 obtain⟨K,G,rfl,aC,_⟩:=ah.open
 have HM:=dM hm
 obtain⟨r,Z⟩:=yaa (qr (oY s) d left)
 have af:r=if left-1<0 then(false,left-1)else(pl s,left-1):=by
  rw[Z,oY,qr]
  by_cases F:left-1<0
  ·rw[dP (.inl F),dP F]
  ·rw[dN (by rintro(h|h);exact F h;exact absurd h (by simp[BD])),dN (by rintro⟨h,_⟩;omega),dN (by omega),dN F];simp[D5]
 rw[←Z]
 obtain⟨x,hx⟩:=yaa (256-left)
 change Calls _ _ #[_,.agg #[.int .i64 3,.int .i64 0,.string s,.slice A 0 c,.slice K 0 G],_] _ _
 have ax:=dM (fun W:World=>yk s c G A K W)
 rw[←hx]at O
 have ap:=dM af
 obtain⟨q,M⟩: ∃z,z=w.alloc (.cells #[.int .i64 3,.int .i64 0,.string s,.slice A 0 c,.slice K 0 G] 63):=⟨_,rfl⟩
 have aa:w.grownBy q none:=by rw[M];exact dO _ _ none
 have aj:Blk q w.heap.size 63 [.int .i64 3,.int .i64 0,.string s,.slice A 0 c,.slice K 0 G]:=by rw[M];exact F0 w _ _
 have R:=O.grownN aa
 have ar:=O.lt
 obtain⟨B,U⟩: ∃z,z=w.heap.size:=⟨_,rfl⟩
 have ag:D≠B:=by omega
 have ak:Blk (q.setCell ⟨D,0,none⟩ (.int .i64 (x+1))) D 209 [.int .i64 (x+1)]:=R.setCell 0 _
 have ai:Blk (q.setCell ⟨D,0,none⟩ (.int .i64 (x+1))) B 63 [.int .i64 3,.int .i64 0,.string s,.slice A 0 c,.slice K 0 G]:=by rw[U];exact aj.grown (ou _ _ _ _) (by rw[←U];intro e;injection e with e;exact ag e.symm)
 have ao:Below W0.heap.size W0 q:=hb.grown aa hb.size (fun k hk=>by cases hk)
 have am:Below W0.heap.size W0 (q.setCell ⟨D,0,none⟩ (.int .i64 (x+1))):=ao.setCell (p:=⟨D,0,none⟩) au _
 have e1:q.cell? ⟨D,0,none⟩=some (.int .i64 x):=R.cell 0
 have e2:q.frozen? ⟨D,0,none⟩=false:=R.frozen 0
 have av:=dM M
 have V:=dM ak
 have E:=dM ai
 have X:=dM am
 have ay:=dM U
 have wx:IntKind.i64.wrap (x+1)=x+1:=by rw[es];omega
 rw[M]at e1 e2
 have aB:x≤256-left:=by omega
 have aA:256-left≤x:=by omega
 clear hx hj hb O hm ah hc Z af aa aj R ar ag ak ai ao am M U
 go_enter func145,ntmps145
 go_upto_region 2 with fail
 rw[show w.alloc (.cells #[.int .i64 3,.int .i64 0,.string s,.slice A 0 c,.slice K 0 G] 63)=q from av.out.symm]
 obtain⟨I,ae⟩: ∃z,z=q.setCell ⟨D,0,none⟩ (.int .i64 (x+1)):=⟨_,rfl⟩
 rw[←ae]at V E X⊢
 rw[show w.heap.size=B from ay.out.symm]
 have a0:I.cell? ⟨D,0,none⟩=some (.int .i64 (x+1)):=V.out.cell 0
 obtain⟨c0,c1,c2,c3,c4⟩:I.cell? ⟨B,0,none⟩=some (.int .i64 3)∧I.cell? ⟨B,1,none⟩=some (.int .i64 0)∧I.cell? ⟨B,2,none⟩=some (.string s)∧I.cell? ⟨B,3,none⟩=some (.slice A 0 c)∧I.cell? ⟨B,4,none⟩=some (.slice K 0 G):=⟨E.out.cell 0,E.out.cell 1,E.out.cell 2,E.out.cell 3,E.out.cell 4⟩
 clear e1 e2 ae
 by_cases F:left-1<0
 ·have gA:(256:Int)<x+1:=by omega
  have HR:Hid (r=(false,left-1)):=dM (by rw[ap.out,dP F])
  go_wp2
  go_ret
  rw[HR.out]
  exact⟨rfl,X.out,fun h=>by cases h⟩
 have gA: ¬(256:Int)<x+1:=by omega
 obtain⟨u,Y⟩:=yaa (pl s)
 have HU:=dM (fun(W':World) (hW:Below W0.heap.size W0 W')=>L4 s W' (HM.out.below hW) hs)
 rw[←Y]at HU
 have HR:Hid (r=(u,left-1)):=dM (by rw[ap.out,dN F,Y])
 clear Y
 go_wp2_with(first|(go_at_call 170;(with_reducible refine(ax.out _).mono ?_);rintro e L ⟨rfl,Q⟩;have ad:=yab X Q;have aq:=dM (Blk.below V.out Q V.out.lt);have N:=dM (Blk.below E.out Q E.out.lt);have b0:L.cell? ⟨B,0,none⟩=some _:=N.out.cell 0;have b1:L.cell? ⟨B,1,none⟩=some _:=N.out.cell 1;have b2:L.cell? ⟨B,2,none⟩=some _:=N.out.cell 2;have b3:L.cell? ⟨B,3,none⟩=some _:=N.out.cell 3;have b4:L.cell? ⟨B,4,none⟩=some _:=N.out.cell 4;clear Q)|(go_at_call 171;(with_reducible refine(HU.out _ ad.out).mono ?_);rintro e w4 ⟨rfl,ab⟩;have az:=yab ad ab;have aw:=dM (Blk.below aq.out ab aq.out.lt);clear ab))
 go_ret
 rw[HR.out]
 exact⟨rfl,az.out,fun _=>⟨by rw[show(256:Int)-(left-1)=x+1 by omega];exact aw.out,by omega,by omega⟩⟩
abbrev FP (kid kind:ByteArray):List J:=[oY sHS,oY kid,oY kind]
abbrev GK:List ByteArray:=[sAlg,sKid,sTyp]
theorem xi (M kind:ByteArray) (z1:M.size≤1000) (z2:kind.size≤1000) (ag:qh none GK=true) (lf:Int) (ah:qp (FP M kind) 2 255=(true,lf)) (W0 w:World) (v:Value) (q:Nat) (hj:RepJ W0 (BK M kind) v) (hb:Below W0.heap.size W0 w) (ao:W0.heap.size≤q) (ab:Blk w q 209 [.int .i64 0]) (hm:Marks W0):
  Calls prog 145 #[.pointer (some ⟨q,0,none⟩),v,.int .i64 1] w fun e w'=>e= .returned (.bool true)∧Below W0.heap.size W0 w':=by
 obtain⟨vk,A,c,rfl,_,Z,hl,hc⟩:=hj.open
 obtain⟨K,E,rfl,aJ,_⟩:=Z.open
 have aD:=dM Z
 have HC:=dM hc
 have HM:=dM hm
 have ak: ∀t∈GK,t.size≤1000000000:=fun t ht=>by simp at ht;rcases ht with rfl|rfl|rfl<;>decide
 have am: ∀x∈FP M kind,G1 x:=fun x hx=>by
  simp at hx
  rcases hx with rfl|rfl|rfl
  ·exact Lh _ (by decide)
  ·exact Lh _ (by omega)
  ·exact Lh _ (by omega)
 have ax:=dM (fun(G:World) (U:Below W0.heap.size W0 G)=>N7 GK ak (.slice K 3 E) G (aD.out.below U) (HM.out.below U))
 rw[ag]at ax
 have az:=dM (fun(G:World) (U:Below W0.heap.size W0 G) (hC:Blk G q 209 [.int .i64 1])=>(show Calls prog 173 #[.pointer (some ⟨q,0,none⟩),.slice A 3 c,.int .i64 2] G (DO W0 q (qp (FP M kind) 2 255))from sN (FP M kind) am 2 255 W0 G A c q HC.out hl U ao (by rw[show(256:Int)-255=1 by omega];exact hC) (by omega) (by omega) (by omega) (by omega) HM.out))
 rw[ah]at az
 clear ah ag ak am
 change Calls _ _ #[_,.agg #[.int .i64 5,.int .i64 0,.string ⟨#[]⟩,.slice A 3 c,.slice K 3 E],.int .i64 1] _ _
 have aF:=dM (fun W:World=>Bi 3 3 c E A K W)
 obtain⟨D,O⟩: ∃z,z=w.alloc (.cells #[.int .i64 5,.int .i64 0,.string ⟨#[]⟩,.slice A 3 c,.slice K 3 E] 63):=⟨_,rfl⟩
 have aa:w.grownBy D none:=by rw[O];exact dO _ _ none
 have ar:Blk D w.heap.size 63 [.int .i64 5,.int .i64 0,.string ⟨#[]⟩,.slice A 3 c,.slice K 3 E]:=by rw[O];exact F0 w _ _
 have V:=ab.grownN aa
 have aA:=ab.lt
 obtain⟨B,X⟩: ∃z,z=w.heap.size:=⟨_,rfl⟩
 have aj:q≠B:=by omega
 have au:Blk (D.setCell ⟨q,0,none⟩ (.int .i64 1)) q 209 [.int .i64 1]:=V.setCell 0 _
 have aq:Blk (D.setCell ⟨q,0,none⟩ (.int .i64 1)) B 63 [.int .i64 5,.int .i64 0,.string ⟨#[]⟩,.slice A 3 c,.slice K 3 E]:=by rw[X];exact ar.grown (ou _ _ _ _) (by rw[←X];intro e;injection e with e;exact aj e.symm)
 have aw:Below W0.heap.size W0 D:=hb.grown aa hb.size (fun k hk=>by cases hk)
 have av:Below W0.heap.size W0 (D.setCell ⟨q,0,none⟩ (.int .i64 1)):=aw.setCell (p:=⟨q,0,none⟩) ao _
 have e1:D.cell? ⟨q,0,none⟩=some (.int .i64 0):=V.cell 0
 have e2:D.frozen? ⟨q,0,none⟩=false:=V.frozen 0
 have aC:=dM O
 have Y:=dM au
 have F:=dM aq
 have ae:=dM av
 have aG:=dM X
 rw[O]at e1 e2
 clear hj hb ab hm Z hc aa ar V aA aj au aq aw av O X
 go_enter func145,ntmps145
 go_upto_region 2 with fail
 rw[show w.alloc (.cells #[.int .i64 5,.int .i64 0,.string ⟨#[]⟩,.slice A 3 c,.slice K 3 E] 63)=D from aC.out.symm]
 obtain⟨L,af⟩: ∃z,z=D.setCell ⟨q,0,none⟩ (.int .i64 1):=⟨_,rfl⟩
 rw[←af]at Y F ae⊢
 rw[show w.heap.size=B from aG.out.symm]
 have a0:L.cell? ⟨q,0,none⟩=some (.int .i64 1):=Y.out.cell 0
 obtain⟨c0,c1,c2,c3,c4⟩:L.cell? ⟨B,0,none⟩=some (.int .i64 5)∧L.cell? ⟨B,1,none⟩=some (.int .i64 0)∧L.cell? ⟨B,2,none⟩=some (.string ⟨#[]⟩)∧L.cell? ⟨B,3,none⟩=some (.slice A 3 c)∧L.cell? ⟨B,4,none⟩=some (.slice K 3 E):=⟨F.out.cell 0,F.out.cell 1,F.out.cell 2,F.out.cell 3,F.out.cell 4⟩
 clear e1 e2 af
 go_wp2_with(first|(go_at_call 170;(with_reducible refine(aF.out _).mono ?_);rintro e N ⟨rfl,R⟩;have ad:=yab ae R;have ay:=dM (Blk.below Y.out R Y.out.lt);have I:=dM (Blk.below F.out R F.out.lt);have b0:N.cell? ⟨B,0,none⟩=some _:=I.out.cell 0;have b1:N.cell? ⟨B,1,none⟩=some _:=I.out.cell 1;have b2:N.cell? ⟨B,2,none⟩=some _:=I.out.cell 2;have b3:N.cell? ⟨B,3,none⟩=some _:=I.out.cell 3;have b4:N.cell? ⟨B,4,none⟩=some _:=I.out.cell 4;clear R)|(go_at_call 172;(with_reducible refine(ax.out _ ad.out).mono ?_);rintro e w4 ⟨rfl,Q⟩;have aI:=yab ad Q;have aE:=dM (Blk.below ay.out Q ay.out.lt);have aB:=dM (Blk.below I.out Q I.out.lt);have q3:w4.cell? ⟨B,3,none⟩=some (.slice A 3 c):=aB.out.cell 3;clear Q)|(go_at_call 173;(with_reducible refine(az.out _ aI.out aE.out).mono ?_);rintro e w5 ⟨rfl,ap,ai⟩;have aH:=dM ap;have aK:=dM ai;clear ap ai))
 go_ret
 exact⟨rfl,aH.out⟩
theorem Lw (s:ByteArray) (U:s.size≤1000000000):DK (oY s):=fun W0 w R aa v vj q D V=>by
 have Q:=dM D
 obtain⟨vk,A,c,rfl,_,N,W,Z⟩:=D.open
 obtain⟨K,G,rfl,X,Y⟩:=N.open
 change Calls _ _ #[_,.agg #[.int .i64 3,.int .i64 0,.string s,.slice A 0 c,.slice K 0 G]] _ _
 replace Q:Hid (RepJ W0 (oY s) (.agg #[.int .i64 3,.int .i64 0,.string s,.slice A 0 c,.slice K 0 G])):=dM Q.out
 obtain⟨L,B⟩: ∃z,z=w.alloc (.cells #[.int .i64 3,.int .i64 0,.string s,.slice A 0 c,.slice K 0 G] 63):=⟨_,rfl⟩
 have E:w.grownBy L none:=by rw[B];exact dO _ _ none
 have ad:=dM (q.moved E)
 have ae:=dM (KeepJ.grownN E)
 have ab:=dM B
 obtain⟨TX,F⟩: ∃t,t=qq (oY s):=⟨_,rfl⟩
 rw[←F]at V⊢
 have HT:Hid (TX=pX (a_ s)):=dM (by rw[F];exact Mx s)
 clear q D N Z Y W X B E F
 have HP:=dM (MP W0 L R aa v s ad.out U (by omega))
 go_enter func113,ntmps113
 go_wp2_with(go_at_call 149;rw[←ab.out];(with_reducible refine HP.out.mono ?_);rintro e_ w2 ⟨a2,M,rfl,q,O⟩;have I:=dM (And.intro M (And.intro q O));clear q O M)
 go_end0
 exact⟨_,by rw[HT.out];exact I.out.1,rfl,I.out.2.1,ae.out.trans I.out.2.2⟩
theorem ty (q kind:ByteArray) (z1:q.size≤1000) (z2:kind.size≤1000):DK (BK q kind):=fun W0 w Q ab v F B D E=>by
 have aa: ∀x∈FP q kind,DK x:=fun x U=>by
  simp at U
  rcases U with rfl|rfl|rfl
  ·exact Lw _ (by decide)
  ·exact Lw _ (by omega)
  ·exact Lw _ (by omega)
 have X: ∀t∈GK,t.size≤1000000000:=fun t V=>by simp at V;rcases V with rfl|rfl|rfl<;>decide
 have ai:=dM (fun(W':World) (F:Value) (h:WSt W0 W' Q ab v) (D:RepJ W0 (BK q kind) F) E=>xR 5 0 ⟨#[]⟩ (FP q kind) GK aa (.inr rfl) (fun _=>rfl) X ⟨#[123]⟩ ⟨#[125]⟩ W0 W' Q ab v F rfl rfl h D E)
 clear aa X
 have N:=dM D
 obtain⟨vk,A,c,rfl,_,Y,hl,hc⟩:=D.open
 obtain⟨K,M,rfl,ad,ae⟩:=Y.open
 change Calls _ _ #[_,.agg #[.int .i64 5,.int .i64 0,.string ⟨#[]⟩,.slice A 3 c,.slice K 3 M]] _ _
 replace N:Hid (RepJ W0 (BK q kind) (.agg #[.int .i64 5,.int .i64 0,.string ⟨#[]⟩,.slice A 3 c,.slice K 3 M])):=dM N.out
 obtain⟨R,G⟩: ∃z,z=w.alloc (.cells #[.int .i64 5,.int .i64 0,.string ⟨#[]⟩,.slice A 3 c,.slice K 3 M] 63):=⟨_,rfl⟩
 have I:w.grownBy R none:=by rw[G];exact dO _ _ none
 have ag:=dM (B.moved I)
 have ah:=dM (KeepJ.grownN I)
 have af:=dM G
 obtain⟨TX,L⟩: ∃t,t=qq (BK q kind):=⟨_,rfl⟩
 rw[←L]at E⊢
 have HT:Hid (TX=a_ ⟨#[123]⟩++tf (decide ((5:Int)=5)) true (FP q kind) GK++a_ ⟨#[125]⟩):=dM (by rw[L,BK,qq];rfl)
 clear B D Y hc ae hl ad G I L
 have HP:=dM (ai.out R _ ag.out N.out (by rw[←HT.out];exact E))
 rw[←HT.out]at HP
 go_enter func113,ntmps113
 go_wp2_with(go_at_call 150;rw[←af.out];(with_reducible refine HP.out.mono ?_);rintro e_ w2 ⟨a2,W,rfl,B,Z⟩;have O:=dM (And.intro W (And.intro B Z));clear B Z W)
 go_end0
 exact⟨_,O.out.1,rfl,O.out.2.1,ah.out.trans O.out.2.2⟩
theorem Dw (j:J) (v:Value) (w:World) (G:RepJ w j v) (Y:Marks w)
  (HR: ∀(W0 w:World) (v:Value) (L:Nat),RepJ W0 j v→Below W0.heap.size W0 w→W0.heap.size≤L→Blk w L 209 [.int .i64 0]→Marks W0→Calls prog 145 #[.pointer (some ⟨L,0,none⟩),v,.int .i64 1] w fun e w'=>e= .returned (.bool true)∧Below W0.heap.size W0 w'):
  Calls prog 112 #[v] w fun e w'=>e= .returned .nilIface∧Below w.heap.size w w':=by
 have HJ:=dM G
 have HM:=dM Y
 obtain⟨vk,A,c,rfl,_,Z,hl,hc⟩:=G.open
 obtain⟨K,dd,rfl,ad,ae⟩:=Z.open
 obtain⟨O,V⟩: ∃x,x=j.kind:=⟨_,rfl⟩
 obtain⟨N,U⟩: ∃x,x=j.n:=⟨_,rfl⟩
 obtain⟨M,R⟩: ∃x,x=j.s:=⟨_,rfl⟩
 obtain⟨p,X⟩:=yaa j.l.length
 obtain⟨q,W⟩:=yaa j.k.length
 rw[←V,←U,←R,←X,←W]at HJ⊢
 obtain⟨D,F⟩: ∃z,z=w.alloc (.cells #[.int .i64 O,.int .i64 N,.string M,.slice A p c,.slice K q dd] 63):=⟨_,rfl⟩
 have I:Below w.heap.size w D:=by rw[F];exact(dU _ _).alloc (dQ _) _
 have Q:D.heap.size=w.heap.size+1:=by rw[F];simp
 obtain⟨B,E⟩: ∃z,z=D.alloc (.cells #[.int .i64 0] 209):=⟨_,rfl⟩
 have ab:Below w.heap.size w B:=by rw[E];exact I.alloc I.size _
 have hC:Blk B (w.heap.size+1) 209 [.int .i64 0]:=by rw[E,←Q];exact F0 D _ _
 have ag:=dM (HR w B _ (w.heap.size+1) HJ.out ab (by omega) hC HM.out)
 have af:Hid (B=(w.alloc (.cells #[.int .i64 O,.int .i64 N,.string M,.slice A p c,.slice K q dd] 63)).alloc (.cells #[.int .i64 0] 209)):=dM (by rw[E,F])
 clear G Y Z hl hc ad ae V U R X W F I Q E ab hC
 clear HR
 go_enter func112,ntmps112
 go_wp2_with(go_at_call 145;rw[←af.out];(with_reducible refine ag.out.mono ?_);rintro e w3 ⟨rfl,aa⟩;have HF:=dM aa;clear aa)
 go_ret
 exact⟨rfl,HF.out⟩
theorem Cw (j:J) (v:Value) (w:World) (hj:RepJ w j v) (hm:Marks w) (ay:DK j) (h4:(qq j).length≤4096)
  (HR: ∀(W0 w:World) (v:Value) (cb:Nat),RepJ W0 j v→Below W0.heap.size W0 w→W0.heap.size≤cb→Blk w cb 209 [.int .i64 0]→Marks W0→Calls prog 145 #[.pointer (some ⟨cb,0,none⟩),v,.int .i64 1] w fun e w'=>e= .returned (.bool true)∧Below W0.heap.size W0 w'):
  Calls prog 84 #[v] w fun e w'=>e= .returned (.tuple #[.string (toS (qq j)),.nilIface])∧Below w.heap.size w w':=by
 have aI:(qq j).length≤4000000000000:=by omega
 have aD:Hid (¬4096<(qq j).length):=dM (by omega)
 have aA:=dM ay
 clear h4
 have HJ:=dM hj
 have HM:=dM hm
 obtain⟨vk,A,c,rfl,_,am,hl,hc⟩:=hj.open
 obtain⟨K,U,rfl,aw,ax⟩:=am.open
 obtain⟨Q,ag⟩: ∃x,x=j.kind:=⟨_,rfl⟩
 obtain⟨O,af⟩: ∃x,x=j.n:=⟨_,rfl⟩
 obtain⟨N,ae⟩: ∃x,x=j.s:=⟨_,rfl⟩
 obtain⟨p,hp⟩:=yaa j.l.length
 obtain⟨q,hq⟩:=yaa j.k.length
 rw[←ag,←af,←ae,←hp,←hq]at HJ⊢
 obtain⟨B,hB⟩:=yaa w.heap.size
 obtain⟨V,W⟩: ∃z,z=w.alloc (.cells #[.int .i64 Q,.int .i64 O,.string N,.slice A p c,.slice K q U] 63):=⟨_,rfl⟩
 have X:Below w.heap.size w V:=by rw[W];exact(dU _ _).alloc (dQ _) _
 have ap:Blk V B 63 [.int .i64 Q,.int .i64 O,.string N,.slice A p c,.slice K q U]:=by rw[W,hB];exact F0 w _ _
 have aE:=dM (Dw j _ V (RepJ.below X _ _ HJ.out) (HM.out.below X) HR)
 have aq:=dM ap
 have av:=dM X
 have aC:=dM W
 have HB:=dM hB
 clear hj hm am hl hc aw ax ag af ae hp hq hB W X ap HR
 go_enter func84,ntmps84
 go_wp2_with fail
 rw[show w.alloc (.cells #[.int .i64 Q,.int .i64 O,.string N,.slice A p c,.slice K q U] 63)=V from aC.out.symm,show w.heap.size=B from HB.out.symm]
 refine aE.out.mono ?_
 rintro e D ⟨rfl,ad⟩
 have G:=aq.out.below ad aq.out.lt
 obtain⟨c0,c1,c2,c3,c4⟩:D.cell? ⟨B,0,none⟩=some (.int .i64 Q)∧D.cell? ⟨B,1,none⟩=some (.int .i64 O)∧D.cell? ⟨B,2,none⟩=some (.string N)∧D.cell? ⟨B,3,none⟩=some (.slice A p c)∧D.cell? ⟨B,4,none⟩=some (.slice K q U):=⟨G.cell 0,G.cell 1,G.cell 2,G.cell 3,G.cell 4⟩
 have aH:=G.lt
 have ab:=av.out.trans (ad.mono av.out.size)
 have au:=dM ab
 obtain⟨E,I⟩: ∃z,z=D.alloc (.cells #[.slice none 0 0] 172):=⟨_,rfl⟩
 have M:D.grownBy E none:=by rw[I];exact dO _ _ none
 obtain⟨R,Z⟩: ∃z,z=D.heap.size:=⟨_,rfl⟩
 have ai:WSt D E R [] (.slice none 0 0):=⟨by rw[I,Z];exact F0 D [.slice none 0 0] _,ft _ _ _ _,by rw[I];exact(dU _ _).alloc (dQ _) _,by omega,.of_mem (by simp)⟩
 have HV:=dM (aA.out D E R [] _ _ ai (RepJ.below ab _ _ HJ.out) (by simp;omega))
 have d0:E.cell? ⟨B,0,none⟩=some (.int .i64 Q):=BT c0 M
 have d1:E.cell? ⟨B,1,none⟩=some (.int .i64 O):=BT c1 M
 have d2:E.cell? ⟨B,2,none⟩=some (.string N):=BT c2 M
 have d3:E.cell? ⟨B,3,none⟩=some (.slice A p c):=BT c3 M
 have d4:E.cell? ⟨B,4,none⟩=some (.slice K q U):=BT c4 M
 have aB:=dM I
 have az:=dM Z
 rw[I]at d0 d1 d2 d3 d4
 clear G ad ab M ai I Z c0 c1 c2 c3 c4
 go_wp2_with fail
 rw[show D.alloc (.cells #[.slice none 0 0] 172)=E from aB.out.symm,show D.heap.size=R from az.out.symm]
 clear d0 d1 d2 d3 d4
 refine HV.out.mono ?_
 rintro e Y ⟨F,ah,rfl,⟨v5,L⟩,hk5⟩
 have aa:(4096<F.length↔4096<(qq j).length)∧(¬4096<F.length→F=qq j):=by
  rcases ah with rfl|⟨h1,h2,_⟩
  ·rw[fs];exact⟨Iff.rfl,fun _=>rfl⟩
  ·simp only[fO,eL]at h2
   exact⟨⟨fun _=>h2,fun _=>h1⟩,fun h=>absurd h1 h⟩
 have ar:=dM (vl D Y R F v5 L)
 have aF:=dM (au.out.trans (L.bel.mono au.out.size))
 have hf: ¬4096<F.length:=fun h=>aD.out (aa.1.1 h)
 have aG:=dM (aa.2 hf)
 rw[dT hf]at ar
 have aJ:=dM L.bts
 have e0:Y.cell? ⟨R,0,none⟩=some v5:=L.blk.cell 0
 obtain⟨A5,c5,rfl,_,ak⟩:=H9 L.own rfl
 have ao:=zK A5 F F.length c5 Y rfl ak
 obtain⟨T,hT⟩:=yaa (toS F)
 have HT:=dM hT
 rw[←hT]at ao
 obtain⟨m,aj⟩:=yaa F.length
 rw[←aj]at ao e0
 clear aa hf ah L hk5 ak hT aj
 go_wp2_with(go_at_call 114;(with_reducible refine ar.out.mono ?_);rintro e w' ⟨rfl,rfl⟩)
 go_ret2
 exact⟨by rw[HT.out,aG.out];rfl,aF.out⟩
theorem AP (q Q kind:ByteArray) (w:World) (z1:q.size≤32) (z2:kind.size≤32)
  (HP: ∀(W:World) (v:Value),RepJ W (BK q kind) v→Below w.heap.size w W→Calls prog 84 #[v] W fun e w'=>e= .returned (.tuple #[.string (toS (ow q kind)),.nilIface])∧Below W.heap.size W w'):
  Calls prog 52 #[.agg #[.string q,.string Q],.string kind] w fun e w'=>e= .returned (.string (toS (ow q kind)))∧Below w.heap.size w w':=by
 have ab:=dM (fun(W:World)=>zg (FW q kind) IW (W.alloc (.cells (qt sAlg sHS++qt sKid q++qt sTyp kind).toArray 133)) (.slice (some ⟨W.heap.size,0,none⟩) 3 3) (LO q kind) (fun _=>False) (fun _ h=>h.elim) (EZ q kind _ _ (by omega) (by omega)) (GJ q kind W))
 rw[xw]at ab
 have Z:=dM HP
 have av:=dM (fun W:World=>If ⟨#[72,83,50,53,54]⟩ W (by decide))
 have au:=dM (fun W:World=>If q W (by omega))
 have ar:=dM (fun W:World=>If kind W (by omega))
 obtain⟨T,Y⟩:=yaa (toS (ow q kind))
 rw[←Y]at Z⊢
 have N:(w.alloc (.cells #[.string q,.string Q] 41)).cell? ⟨w.heap.size,0,none⟩=some (.string q):=by simp
 have ai:=nc N
 have aA:=fun W=>Kz W ⟨#[97,108,103]⟩ ⟨#[72,83,50,53,54]⟩ 3 0 none none 0 0 0 0
 have az:=fun W=>Kz W ⟨#[107,105,100]⟩ q 3 0 none none 0 0 0 0
 have ay:=fun W=>Kz W ⟨#[116,121,112]⟩ kind 3 0 none none 0 0 0 0
 have ah:=dM (nO w (.cells #[.string q,.string Q] 41)).drew
 clear Y HP z1 z2
 go_enter func52,ntmps52
 go_wp2_with fail
 refine fh (S:=fun X=>X.cell? ⟨w.heap.size,0,none⟩=some (.string q)) (by kernel_rfl) N (fun aj=> ?_)
 refine mZ 2 ?_
 try simp only[k_]
 refine mZ 3 ?_
 try simp only[k_]
 refine mZ 6 ?_
 try simp only[k_]
 refine pn 0 (fun K D=> ?_)
 go_simp
 go_at_call 68
 (with_reducible refine(av.out _).mono ?_)
 rintro e w1 ⟨rfl,B⟩
 have ag:=yab ah B
 have I:=(B.cell (p:=⟨w.heap.size,0,none⟩) ai).trans N
 refine D.out _ _ I (fun aq=> ?_)
 clear D K B aj
 try simp only[k_]
 refine mZ 1 ?_
 try simp only[k_]
 refine pn 4 (fun K D=> ?_)
 go_simp
 go_at_call 68
 (with_reducible refine(au.out _).mono ?_)
 rintro e w2 ⟨rfl,B⟩
 have af:=yab ag B
 have G:=(B.cell (nc I)).trans I
 refine D.out _ _ G (fun ap=> ?_)
 clear D K B aq I
 try simp only[k_]
 refine mZ 5 ?_
 try simp only[k_]
 refine pn 7 (fun K D=> ?_)
 go_simp
 go_at_call 68
 (with_reducible refine(ar.out _).mono ?_)
 rintro e O ⟨rfl,B⟩
 have ae:=yab af B
 have F:=(B.cell (nc G)).trans G
 refine D.out _ _ F (fun ao=> ?_)
 clear D K B ap G
 try simp only[k_]
 refine mZ 8 ?_
 try simp only[k_]
 refine pn 9 (fun K D=> ?_)
 rw[dP (by kernel_rfl)]
 refine N2 _ rfl sAlg sHS sKid q sTyp kind (by kernel_rfl) ?_
 have L:=nO O (.cells (qt sAlg sHS++qt sKid q++qt sTyp kind).toArray 133)
 have aa:=dM (ab.out O)
 obtain⟨w4,U⟩: ∃W,W=O.alloc (.cells (qt sAlg sHS++qt sKid q++qt sTyp kind).toArray 133):=⟨_,rfl⟩
 rw[←U]at L aa⊢
 clear U
 have E:=(L.cell (nc F)).trans F
 refine D.out _ _ E (fun am=> ?_)
 have ad:=yab ae L
 clear D K L ao
 try simp only[k_]
 refine pn 10 (fun K D=> ?_)
 go_simp
 go_at_call 85
 (with_reducible refine aa.out.mono ?_)
 rintro e w5 ⟨v5,rfl,V,B⟩
 have aw:=dM (RepS.toJ _ _ V)
 have R:=yab ad B
 have M:=(B.cell (nc E)).trans E
 refine D.out _ _ M (fun ak=> ?_)
 clear D K B am F V
 try simp only[k_]
 refine pn 11 (fun K D=> ?_)
 go_simp
 go_at_call 84
 (with_reducible refine(Z.out _ _ aw.out R.out).mono ?_)
 rintro e w6 ⟨rfl,B⟩
 have ax:=yab R B
 have y5:=(B.cell (nc M)).trans M
 refine D.out _ _ y5 (fun aB=> ?_)
 clear D K B ak E
 try simp only[k_]
 refine mZ 12 ?_
 try simp only[k_]
 refine mZ 13 ?_
 try simp only[k_]
 refine mZ 14 ?_
 try simp only[k_]
 refine mZ 15 ?_
 try simp only[k_]
 refine mZ 16 ?_
 try simp only[k_]
 refine gC (by kernel_rfl) ?_ _
 go_wp2
 go_ret
 exact⟨rfl,ax.out⟩
theorem yc {ks:List mV} {kind q:ByteArray} (h:o9 ks=false):rE ks kind q=83:=by unfold rE;rw[dP h]
theorem yb {ks:List mV} {kind q:ByteArray} (h1:o9 ks=true) (h:oG (a_ kind)=false):rE ks kind q=1:=by unfold rE;rw[dN (by rw[h1];decide),dP h]
theorem sE {ks:List mV} {kind q:ByteArray} (h1:o9 ks=true) (B:oG (a_ kind)=true) (h: ¬q.size≤4096):rE ks kind q=2:=by unfold rE;rw[dN (by rw[h1];decide),dN (by rw[B];decide),dP (by omega)]
theorem A_ {ks:List mV} {kind q:ByteArray} (h1:o9 ks=true) (B:oG (a_ kind)=true) (h:q.size≤4096):rE ks kind q=0:=by unfold rE;rw[dN (by rw[h1];decide),dN (by rw[B];decide),dN (by omega)]
def DU (m:Int) (w:World) (e:Ending) (w':World):Prop:= ∃v,e= .returned v∧WErr m v w'∧Below w.heap.size w w'
theorem LY (ks:List mV) (A:Option Addr) (n c:Nat) (kind N:ByteArray) (w G:World) (h:Three w G A n c kind N) (hn:ks.length=n) (ad:n≤9223372036854775807) (ab:n≤c) (hk:KeyOk ks)
  (row:Option Nat) (aa: ∀W,G.grownBy W row→RingAt W A ks) (M: ∀b,w.heap.size≤b→b<w.heap.size+9→some b≠row) (X:World→Prop) (Y: ∀W D,X W→G.grownBy W row→Below W.heap.size W D→X D)
  (I:Nat→World→Prop) (E:Value→World→Prop) (L: ∀i,i≤3→I i=fun W=>G.grownBy W row∧vZ ks kind N i∧X W) (Z: ∀v W m,rE ks kind N=m→m≠0→WErr m v W→G.grownBy W row→E v W):
  ErrAsk 46 #[.pointer (some ⟨w.heap.size,0,none⟩)] (I 0) (I 1) E∧
  ErrAsk 61 #[.pointer (some ⟨w.heap.size+2+2,0,none⟩),.pointer (some ⟨w.heap.size+2,0,none⟩),.pointer (some ⟨w.heap.size+2+1,0,none⟩)] (I 1) (I 2) E∧
  ErrAsk 61 #[.pointer (some ⟨w.heap.size+6+2,0,none⟩),.pointer (some ⟨w.heap.size+6,0,none⟩),.pointer (some ⟨w.heap.size+6+1,0,none⟩)] (I 2) (I 3) E:=by
 have U: ∀W D,G.grownBy W row→Below W.heap.size W D→G.grownBy D row:=fun W D q B=>q.trans (od B row)
 refine⟨?_,?_,?_⟩
 ·refine wK ks A n c kind N G w.heap.size h.ring hn ad ab hk (aa G (ov _ _)) I E row ?_ ?_ ?_
  ·rw[L 0 (by decide)];rintro W ⟨q,_,_⟩;exact⟨q,aa W q,M _ (by omega) (by omega)⟩
  ·rw[L 0 (by decide),L 1 (by decide)];rintro B W D ⟨q,⟨_,_,_⟩,F⟩ R
   exact⟨U W D q R,⟨fun _=>B,fun h=>absurd h (by decide),fun h=>absurd h (by decide)⟩,Y W D F q R⟩
  ·rw[L 0 (by decide)];rintro B W D ⟨q,_,_⟩ R
   exact Z _ _ 83 (yc B) (by decide) (.inr (.inl ⟨by decide,rfl⟩)) (U W D q R)
 ·have O: ∀W,G.grownBy W row→UnlAt W (w.heap.size+2) 1 qd 47 #[] #[.pointer (some ⟨w.heap.size+1,0,none⟩)]:=fun W q=>h.un.grown q (M _ (by omega) (by omega)) (M _ (by omega) (by omega)) (M _ (by omega) (by omega))
  refine ErrAsk.unl (w.heap.size+2) 1 qd 47 #[] #[.pointer (some ⟨w.heap.size+1,0,none⟩)] (oG (a_ kind)) (I 1) (I 2) E (fun W=>G.grownBy W row∧o9 ks=true∧X W) (by decide) E9 ?_ (fun W q=>O W q.1) ?_ ?_ ?_ ?_
  ·rw[L 1 (by decide)];rintro W ⟨q,_,_⟩;exact O W q
  ·rintro W D ⟨q,h1,F⟩ B;exact⟨U W D q B,h1,Y W D F q B⟩
  ·rw[L 1 (by decide)];rintro W ⟨q,⟨h1,_,_⟩,F⟩
   refine(AC kind (w.heap.size+1) W (q.cell h.kd (M (w.heap.size+1) (by omega) (by omega)))).mono ?_
   rintro e w' ⟨rfl,rfl⟩
   exact⟨rfl,q,h1 (by decide),F⟩
  ·rw[L 2 (by decide)];rintro B W ⟨q,h1,F⟩;exact⟨q,⟨fun _=>h1,fun _=>B,fun h=>absurd h (by decide)⟩,F⟩
  ·rintro B W b' ⟨q,h1,F⟩ V
   exact Z _ _ 1 (yb h1 B) (by decide) (Eh (by decide) V) q
 ·have O: ∀W,G.grownBy W row→UnlAt W (w.heap.size+6) 2 DZ 49 #[] #[.pointer (some ⟨w.heap.size+5,0,none⟩)]:=fun W q=>h.us.grown q (M _ (by omega) (by omega)) (M _ (by omega) (by omega)) (M _ (by omega) (by omega))
  refine ErrAsk.unl (w.heap.size+6) 2 DZ 49 #[] #[.pointer (some ⟨w.heap.size+5,0,none⟩)] (decide (N.size≤4096)) (I 2) (I 3) E (fun W=>G.grownBy W row∧(o9 ks=true∧oG (a_ kind)=true)∧X W) (by decide) vw ?_ (fun W q=>O W q.1) ?_ ?_ ?_ ?_
  ·rw[L 2 (by decide)];rintro W ⟨q,_,_⟩;exact O W q
  ·rintro W D ⟨q,h1,F⟩ B;exact⟨U W D q B,h1,Y W D F q B⟩
  ·rw[L 2 (by decide)];rintro W ⟨q,⟨h1,Q,_⟩,F⟩
   refine(Mt N (w.heap.size+5) W (q.cell h.tx (M (w.heap.size+5) (by omega) (by omega)))).mono ?_
   rintro e w' ⟨rfl,rfl⟩
   exact⟨rfl,q,⟨h1 (by decide),Q (by decide)⟩,F⟩
  ·rw[L 3 (by decide)];rintro B W ⟨q,⟨h1,Q⟩,F⟩;exact⟨q,⟨fun _=>h1,fun _=>Q,fun _=>fG B⟩,F⟩
  ·rintro B W b' ⟨q,⟨h1,Q⟩,F⟩ V
   exact Z _ _ 2 (sE h1 Q (jX B)) (by decide) (Eh (by decide) V) q
theorem wX (ks:List mV) (A:Option Addr) (n c:Nat) (kind G:ByteArray) (w B:World) (h:Three w B A n c kind G) (hz:B.heap.size=w.heap.size+9) (hn:ks.length=n) (ab:n≤9223372036854775807) (aa:n≤c) (hk:KeyOk ks) (hr:RingAt w A ks):
  Calls prog 19 #[.slice (some ⟨B.heap.size,0,none⟩) 3 3] (B.alloc (.cells #[.func (.func 46) #[] #[.pointer (some ⟨w.heap.size,0,none⟩)],ny (w.heap.size+2),ny (w.heap.size+6)] 50)) (DU (rE ks kind G) B):=by
 obtain⟨D,L⟩: ∃W,W=B.alloc (.cells #[.func (.func 46) #[] #[.pointer (some ⟨w.heap.size,0,none⟩)],ny (w.heap.size+2),ny (w.heap.size+6)] 50):=⟨_,rfl⟩
 have F:Below B.heap.size B D:=by rw[L];exact nO _ _
 have V:D.cell? ⟨B.heap.size,0,none⟩=some (.func (.func 46) #[] #[.pointer (some ⟨w.heap.size,0,none⟩)]):=by rw[L];simp
 have U:D.cell? ⟨B.heap.size,1,none⟩=some (ny (w.heap.size+2)):=by rw[L];simp
 have R:D.cell? ⟨B.heap.size,2,none⟩=some (ny (w.heap.size+6)):=by rw[L];simp
 have ad:B.heap.size<D.heap.size:=by rw[L];simp
 rw[←L]
 have O:Three w D A n c kind G:=⟨h.bel.trans (F.mono h.bel.size),(F.cell (nc h.ring)).trans h.ring,(F.cell (nc h.kd)).trans h.kd,h.un.below F,(F.cell (nc h.tx)).trans h.tx,h.us.below F⟩
 obtain⟨I,M⟩: ∃I:Nat→World→Prop,I=fun i W=>D.grownBy W none∧vZ ks kind G i∧True:=⟨_,rfl⟩
 obtain⟨E,Q⟩: ∃E:Value→World→Prop,E=fun v W=>WErr (rE ks kind G) v W∧D.grownBy W none:=⟨_,rfl⟩
 obtain⟨a0,a1,a2⟩:=LY ks A n c kind G w D O hn ab aa hk none (fun W N=>hr.below (O.bel.grown N O.bel.size (fun b e=>by cases e))) (fun b _ _ e=>by cases e) (fun _=>True) (fun _ _ _ _ _=>trivial) I E (fun i _=>by rw[M]) (fun v W m h1 _ h2 h3=>by rw[Q,h1];exact⟨h2,h3⟩)
 refine(Ln B.heap.size 3 3 [(46,#[.pointer (some ⟨w.heap.size,0,none⟩)]),(61,#[.pointer (some ⟨w.heap.size+2+2,0,none⟩),.pointer (some ⟨w.heap.size+2,0,none⟩),.pointer (some ⟨w.heap.size+2+1,0,none⟩)]),(61,#[.pointer (some ⟨w.heap.size+6+2,0,none⟩),.pointer (some ⟨w.heap.size+6,0,none⟩),.pointer (some ⟨w.heap.size+6+1,0,none⟩)])] I E D rfl (by decide) ?_ ?_ ?_).mono ?_
 ·intro i f W q hi
  rw[M]at hi
  match i,q with
  |0,q=>injection q with q;subst q;exact hi.1.cell V (fun e=>by cases e)
  |1,q=>injection q with q;subst q;exact hi.1.cell U (fun e=>by cases e)
  |2,q=>injection q with q;subst q;exact hi.1.cell R (fun e=>by cases e)
 ·intro i f q
  match i,q with
  |0,q=>injection q with q;subst q;exact a0
  |1,q=>injection q with q;subst q;exact a1
  |2,q=>injection q with q;subst q;exact a2
 ·rw[M];exact⟨ov _ _,⟨fun h=>absurd h (by decide),fun h=>absurd h (by decide),fun h=>absurd h (by decide)⟩,trivial⟩
 ·rintro e w' (⟨rfl,h⟩|⟨d,x,rfl,h⟩)
  ·rw[M]at h
   obtain⟨N,⟨Z,Y,X⟩,_⟩:=h
   exact⟨_,rfl,.inl ⟨A_ (Z (by decide)) (Y (by decide)) (X (by decide)),rfl⟩,F.grown N F.size (fun b e=>by cases e)⟩
  ·rw[Q]at h
   exact⟨_,rfl,h.1,F.grown h.2 F.size (fun b e=>by cases e)⟩
theorem Aa (G:ByteArray) (w B:World) (Q:Below w.heap.size w B) (X:UnlAt B (w.heap.size+1) 2 DZ 49 #[] #[.pointer (some ⟨w.heap.size,0,none⟩)]) (O:B.cell? ⟨w.heap.size,0,none⟩=some (.string G)):
  Calls prog 19 #[.slice (some ⟨B.heap.size,0,none⟩) 1 1] (B.alloc (.cells #[ny (w.heap.size+1)] 50)) (DU (if 4096<G.size then 2 else 0) B):=by
 obtain⟨F,N⟩: ∃W,W=B.alloc (.cells #[ny (w.heap.size+1)] 50):=⟨_,rfl⟩
 have L:Below B.heap.size B F:=by rw[N];exact nO _ _
 have V:F.cell? ⟨B.heap.size,0,none⟩=some (ny (w.heap.size+1)):=by rw[N];simp
 rw[←N]
 have Z:=X.below L
 have t4:=(L.cell (nc O)).trans O
 obtain⟨I,M⟩: ∃I:Nat→World→Prop,I=fun i W=>F.grownBy W none∧(0<i→G.size≤4096):=⟨_,rfl⟩
 obtain⟨E,U⟩: ∃E:Value→World→Prop,E=fun v W=> ¬G.size≤4096∧WErr 2 v W∧F.grownBy W none:=⟨_,rfl⟩
 have R: ∀W,F.grownBy W none→UnlAt W (w.heap.size+1) 2 DZ 49 #[] #[.pointer (some ⟨w.heap.size,0,none⟩)]:=fun W q=>Z.grown q (fun e=>by cases e) (fun e=>by cases e) (fun e=>by cases e)
 refine(Ln B.heap.size 1 1 [(61,#[.pointer (some ⟨w.heap.size+1+2,0,none⟩),.pointer (some ⟨w.heap.size+1,0,none⟩),.pointer (some ⟨w.heap.size+1+1,0,none⟩)])] I E F rfl (by decide) ?_ ?_ ?_).mono ?_
 ·intro i f W D hi
  rw[M]at hi
  match i,D with
  |0,D=>injection D with D;subst D;exact hi.1.cell V (fun e=>by cases e)
 ·intro i f D
  match i,D with
  |0,D=>
   injection D with D;subst D
   refine ErrAsk.unl (w.heap.size+1) 2 DZ 49 #[] #[.pointer (some ⟨w.heap.size,0,none⟩)] (decide (G.size≤4096)) (I 0) (I (0+1)) E (fun W=>F.grownBy W none) (by decide) vw ?_ R (fun W W' q Q=>q.trans (od Q none)) ?_ ?_ ?_
   ·rw[M];rintro W ⟨q,_⟩;exact R W q
   ·rw[M];rintro W ⟨q,_⟩
    refine(Mt G w.heap.size W (q.cell t4 (fun e=>by cases e))).mono ?_
    rintro e w' ⟨rfl,rfl⟩
    exact⟨rfl,q⟩
   ·rw[M];rintro h W q;exact⟨q,fun _=>fG h⟩
   ·rw[U];rintro h W b' q Y;exact⟨jX h,Eh (by decide) Y,q⟩
 ·rw[M];exact⟨ov _ _,fun h=>absurd h (by decide)⟩
 ·rintro e w' (⟨rfl,h⟩|⟨d,x,rfl,h⟩)
  ·rw[M]at h
   have:=h.2 (by decide)
   exact⟨_,rfl,.inl ⟨dN (by omega),rfl⟩,L.grown h.1 L.size (fun b e=>by cases e)⟩
  ·rw[U]at h
   have:=h.1
   exact⟨_,rfl,by rw[dP (by omega)];exact h.2.1,L.grown h.2.2 L.size (fun b e=>by cases e)⟩
def Fr (ks:List mV) (kind payload:ByteArray) (w:World) (e:Ending) (w':World):Prop:= ∃t v,e= .returned (.tuple #[.string t,v])∧a_ t=(DW ks kind payload).1∧WErr (DW ks kind payload).2 v w'∧Below w.heap.size w w'
theorem Ab {ks:List mV} {kind payload:ByteArray} (h:rE ks kind payload≠0):DW ks kind payload=([],rE ks kind payload):=by
 unfold rE at h⊢
 unfold DW
 split
 ·rfl
 ·split
  ·rfl
  ·split
   ·rfl
   ·rename_i h1 B q
    rw[dN h1,dN B,dN q]at h
    exact absurd rfl h
theorem vo {ks:List mV} {kind payload:ByteArray} (h:rE ks kind payload=0):o9 ks=true∧oG (a_ kind)=true∧payload.size≤4096:=by
 unfold rE at h
 split at h
 ·cases h
 ·split at h
  ·cases h
  ·split at h
   ·cases h
   ·rename_i h1 q B
    exact⟨by simpa using h1,by simpa using q,by omega⟩
theorem wY {ks:List mV} {kind payload:ByteArray} (h:rE ks kind payload=0):DW ks kind payload=if 4096<(zH (ks.getLastD default) kind payload).length then([],2)else(zH (ks.getLastD default) kind payload,0):=by
 obtain⟨h1,q,B⟩:=vo h
 unfold DW
 rw[dN (by rw[h1];decide),dN (by rw[q];decide),dN (by omega)]
theorem CY {ks:List mV} {n:Nat} (q:ks.length=n+1):ks.getLastD default=ks[n]'(by omega):=by
 have B:ks≠[]:=fun e=>by rw[e]at q;cases q
 rw[List.getLastD_eq_getLast?,List.getLast?_eq_getElem?,dZ (by omega),gO]
 congr 1
 omega
theorem UnlAt.belowB {w w':World} {b B:Nat} {no:Int} {E:ByteArray} {q:Nat} {first F:Array Value} (h:UnlAt w b no E q first F) (D:Below B w w') (G:b+2<B):UnlAt w' b no E q first F:=
 ⟨(D.cell (p:=⟨b+2,0,none⟩) G).trans h.1,(D.cell (p:=⟨b,0,none⟩) (by show b<B;omega)).trans h.2.1,(D.cell (p:=⟨b+1,0,none⟩) (by show b+1<B;omega)).trans h.2.2⟩
theorem tE {w E B q:World} {A:Option Addr} {n c:Nat} {kind F:ByteArray} (M:Below w.heap.size w E) (G:Below (w.heap.size+1) E B) (D:Below (w.heap.size+5) B q) (c1:E.cell? ⟨w.heap.size,0,none⟩=some (.slice A n c)) (L:B.cell? ⟨w.heap.size+1,0,none⟩=some (.string kind))
  (u2:UnlAt B (w.heap.size+2) 1 qd 47 #[] #[.pointer (some ⟨w.heap.size+1,0,none⟩)]) (I:q.cell? ⟨w.heap.size+5,0,none⟩=some (.string F)) (u3:UnlAt q (w.heap.size+6) 2 DZ 49 #[] #[.pointer (some ⟨w.heap.size+5,0,none⟩)]):Three w q A n c kind F:=
 ⟨M.trans ((G.mono (by omega)).trans (D.mono (by omega))),(D.cell (p:=⟨w.heap.size,0,none⟩) (by show w.heap.size<_;omega)).trans ((G.cell (p:=⟨w.heap.size,0,none⟩) (by show w.heap.size<_;omega)).trans c1),(D.cell (p:=⟨w.heap.size+1,0,none⟩) (by show w.heap.size+1<_;omega)).trans L,u2.belowB D (by omega),I,u3⟩
theorem IE {n:Int} (h:0≤n∧n<64):sg n≠46:=by unfold sg;split<;>(try split)<;>(try split)<;>(try split)<;>omega
theorem Ft {l:List Int} (h:Bytes l):Hw l:=fun x q=>h.mem q
theorem yf {l:List Int} (h:Bytes l):46 ∉ l_ l:=fun q=>by
 obtain⟨n,h0,h1,e⟩:=JY l (Ft h) 46 q
 exact IE ⟨h0,h1⟩ e.symm
theorem L0 {q h p:List Int} (D:Bytes h) (B:Bytes p):nD (BO q h p)=some (l_ h,l_ p,l_ (nA q (yG h p))):=by
 have E:Bytes (nA q (yG h p)):=BU _
 have e:px (BO q h p)=[l_ h,l_ p,l_ (nA q (yG h p))]:=by
  have F:BO q h p=l_ h++46::(l_ p++46::l_ (nA q (yG h p))):=by unfold BO;rw[show yG h p=l_ h++46::l_ p from rfl];simp
  rw[F,F6 _ _ (yf D),F6 _ _ (yf B),Im _ (yf E)]
 unfold nD
 rw[e]
 exact dP ⟨KL _ (Ft D),KL _ (Ft B),KL _ (Ft E)⟩
theorem Jp (a b:List Int):(nA a b).length=32:=ww _
def rB (w:World) (ob:Nat) (xs:List Int) (c0 v1 c2 c3 k0 k1:Value) (e:Ending) (w':World):Prop:=
 w.grownBy w' (some ob)∧ ∃h0 h1 h2 h3 h4,e= .returned (.bool (qa xs))∧Blk w' ob 65 [c0,v1,c2,c3,h0,h1,h2,h3,h4,k0,k1]∧RepS w' (fun b=>w.heap.size≤b) (nN xs).1 (.agg #[h0,h1,h2,h3,h4])
theorem JErr.ends {n pos:Int} {v:Value} {w:World} (h:JErr n pos v w):(n=0∧v= .nilIface)∨(n≠0∧ ∃d x,v= .iface d x):=by
 rcases h with⟨h,_,e⟩|⟨h,_,e⟩|⟨h,b,e,_⟩
 ·exact .inl ⟨h,e⟩
 ·exact .inr ⟨h,_,_,e⟩
 ·exact .inr ⟨h,_,_,e⟩
theorem xX (n:ByteArray):pD [sAlg,sKid,sTyp] n=decide (n=sAlg∨n=sKid∨n=sTyp):=by
 rw[iA,Df,eb];simp
theorem N5 (G:Nat) (xs:List Int) (c0 c2 c3 h0 h1 h2 h3 h4 k0 k1:Value) (A1:Option Addr) (n c:Nat) (w:World) (ai:Blk w G 65 [c0,.slice A1 n c,c2,c3,h0,h1,h2,h3,h4,k0,k1]) (hn:xs.length=n) (aL:n≤9223372036854775807) (hx:Bytes xs) (hl:Lies w A1 xs) (ha:Ask5 w):
  Calls prog 31 #[.pointer (some ⟨G,0,none⟩)] w (rB w G xs c0 (.slice A1 n c) c2 c3 k0 k1):=by
 have aq:=dM (uk A1 xs n c w hn aL hx hl ha.marks ha.tab)
 have az:=ai.lt
 have aw:=dM ai
 have x1:w.cell? ⟨G,1,none⟩=some (.slice A1 n c):=ai.cell 1
 have ap:=dM (fun h=>M5 (l:=xs) h)
 have aa:Hid (qa xs=(decide ((nN xs).2.1=0)&&decide ((nN xs).1.kind=5)&&(nN xs).1.k.all (pD [sAlg,sKid,sTyp]))):=dM (by
  unfold qa
  congr 1
  exact eH (fun f=>(nN xs).1.k.all f) (funext fun n=>(xX n).symm))
 unfold rB
 obtain⟨r,hr⟩:=yaa (nN xs)
 rw[←hr]at aq ap aa⊢
 obtain⟨j,no,po⟩:=r
 obtain⟨v1,ax⟩: ∃v:Value,v= .slice A1 n c:=⟨_,rfl⟩
 rw[←ax]at aw⊢
 obtain⟨R,hR⟩:=yaa (qa xs)
 rw[←hR]at aa⊢
 clear ai hr hl hx ha hn hR
 go_enter func31,ntmps31
 go_wp2_with(go_at_call 64;fail)
 refine aq.out.mono ?_
 rintro e w1 ⟨v,ev,rfl,ah,aD,L⟩
 obtain⟨vk,M,c4,rfl, -,ak, -, -⟩:=RepJ.open (RepS.toJ _ _ ah)
 have aT:=dM ak
 obtain⟨E,F,rfl, -, -⟩:=ak.open
 have aS:=dM ah
 have ab:=dM (dX az L.size)
 have ar:=dM (aw.out.below L az)
 have aU:=dM L
 have au:Hid (∀g3 Z Y D,w1.grownBy Z none→Z.grownBy Y (some g3)→w1.heap.size≤g3→Y.grownBy D (some G)→w.grownBy D (some G)∧RepS D (fun b=>w.heap.size≤b) j (.agg #[.int .i64 j.kind,.int .i64 j.n,.string j.s,.slice M j.l.length c4,.slice E j.k.length F])):=dM (fun g3 Z Y D e2 e3 e4 e5=>by
  have k2:=RepS.keeps (Keeps.grown e2 (fun b _ e=>by cases e)) (fun b h aj=>And.intro h aj) _ _ ah
  have k3:=RepS.keeps (Keeps.grown e3 (fun b L e=>by injection e with e;have:=L.2;omega)) (fun _ h _=>h) _ _ k2
  have k5:=RepS.keeps (Keeps.grown e5 (fun b L e=>by injection e with e;have:=L.1;omega)) (fun b h _=>h.1) _ _ k3
  refine⟨?_,k5⟩
  have aE:Below w.heap.size w Z:=L.grown e2 L.size (fun b e=>by cases e)
  have aR:Below w.heap.size w Y:=aE.grown e3 aE.size (fun b e=>by injection e with e;have:=L.size;omega)
  exact((od aR none).but _).trans e5)
 have aO:=aD.ends
 clear ah ak L aD aq aw x1 ax
 rcases aO with⟨rfl,rfl⟩|⟨aJ,d,x,rfl⟩
 case inr=>
  have HF:Hid (R=false):=dM (by rw[aa.out,dT aJ];rfl)
  go_wp2_with(first
   |(refine nG rfl (some 3) rfl _ rfl _ BE ?_;intro g3 Z U W q;have X:=dM q;have N:=dM U;clear q U;try go_frame)
   |(refine nn rfl none rfl _ (.tmp 3) (.tmp 12) rfl g3 0 [.int .i64 j.kind,.int .i64 j.n,.string j.s,.slice M j.l.length c4,.slice E j.k.length F] rfl rfl _ _ W (by simp[zeros5]) m8 (by intro v B;simp at B;rcases B with rfl|rfl|rfl|rfl|rfl<;>rfl) ?_;intro Y I q;rw[nr _ _ (by simp[zeros5])]at I;have af:=dM q;have O:=((ar.out.grownN X.out).grown q (fun e=>by injection e with e;have:=N.out;have:=ab.out;omega));have ag:=dM I;clear q W;try go_frame)
   |(refine pO rfl (some 15) rfl _ (.tmp 3) rfl g3 0 rfl _ _ I [.int .i64 j.kind,.int .i64 j.n,.string j.s,.slice M j.l.length c4,.slice E j.k.length F] (fun i v B=>by rw[eL];exact B) _ ed rfl m8 ?_;try go_frame)
   |(refine nn rfl none rfl _ (.tmp 17) (.tmp 15) rfl G 4 [.int .i64 j.kind,.int .i64 j.n,.string j.s,.slice M j.l.length c4,.slice E j.k.length F] rfl rfl _ _ O (by simp) m8 (by intro v B;simp at B;rcases B with rfl|rfl|rfl|rfl|rfl<;>rfl) ?_;intro D V q;have ad:Hid (Blk D G 65 [c0,v1,c2,c3,.int .i64 j.kind,.int .i64 j.n,.string j.s,.slice M j.l.length c4,.slice E j.k.length F,k0,k1]):=dM V;have ae:=dM q;have Q:some g3≠some G:=(fun e=>by injection e with e;have:=N.out;have:=ab.out;omega);have y:=(ag.out.grown q Q);have y0:D.cell? ⟨g3,0,none⟩=some (.int .i64 j.kind):=y.cell 0;have y4:D.cell? ⟨g3,4,none⟩=some (.slice E j.k.length F):=y.cell 4;clear q V I O y Q;try go_frame))
  go_ret
  obtain⟨g1,g2⟩:=au.out _ _ _ _ X.out af.out N.out ae.out
  exact⟨g1,_,_,_,_,_,by rw[HF.out];rfl,ad.out,g2⟩
 case inl=>
  obtain⟨aI,aB⟩:=ap.out rfl
  by_cases h5:j.kind=5
  case neg=>
   have HF:Hid (R=false):=dM (by rw[aa.out,dT h5];rfl)
   have b5:(j.kind==5)=false:=by rw[dY];exact h5
   clear h5
   go_wp2_with(first
   |(refine nG rfl (some 3) rfl _ rfl _ BE ?_;intro g3 Z U W q;have X:=dM q;have N:=dM U;clear q U;try go_frame)
   |(refine nn rfl none rfl _ (.tmp 3) (.tmp 12) rfl g3 0 [.int .i64 j.kind,.int .i64 j.n,.string j.s,.slice M j.l.length c4,.slice E j.k.length F] rfl rfl _ _ W (by simp[zeros5]) m8 (by intro v B;simp at B;rcases B with rfl|rfl|rfl|rfl|rfl<;>rfl) ?_;intro Y I q;rw[nr _ _ (by simp[zeros5])]at I;have af:=dM q;have O:=((ar.out.grownN X.out).grown q (fun e=>by injection e with e;have:=N.out;have:=ab.out;omega));have ag:=dM I;clear q W;try go_frame)
   |(refine pO rfl (some 15) rfl _ (.tmp 3) rfl g3 0 rfl _ _ I [.int .i64 j.kind,.int .i64 j.n,.string j.s,.slice M j.l.length c4,.slice E j.k.length F] (fun i v B=>by rw[eL];exact B) _ ed rfl m8 ?_;try go_frame)
   |(refine nn rfl none rfl _ (.tmp 17) (.tmp 15) rfl G 4 [.int .i64 j.kind,.int .i64 j.n,.string j.s,.slice M j.l.length c4,.slice E j.k.length F] rfl rfl _ _ O (by simp) m8 (by intro v B;simp at B;rcases B with rfl|rfl|rfl|rfl|rfl<;>rfl) ?_;intro D V q;have ad:Hid (Blk D G 65 [c0,v1,c2,c3,.int .i64 j.kind,.int .i64 j.n,.string j.s,.slice M j.l.length c4,.slice E j.k.length F,k0,k1]):=dM V;have ae:=dM q;have Q:some g3≠some G:=(fun e=>by injection e with e;have:=N.out;have:=ab.out;omega);have y:=(ag.out.grown q Q);have y0:D.cell? ⟨g3,0,none⟩=some (.int .i64 j.kind):=y.cell 0;have y4:D.cell? ⟨g3,4,none⟩=some (.slice E j.k.length F):=y.cell 4;clear q V I O y Q;try go_frame))
   go_ret
   obtain⟨g1,g2⟩:=au.out _ _ _ _ X.out af.out N.out ae.out
   exact⟨g1,_,_,_,_,_,by rw[HF.out];rfl,ad.out,g2⟩
  case pos=>
   have b5:(j.kind==5)=true:=by rw[h5];rfl
   have aF:=dM (aB h5)
   have HF:Hid (R=j.k.all (pD [sAlg,sKid,sTyp])):=dM (by rw[aa.out,ec h5];rfl)
   clear aB aI ap aa h5
   go_wp2_with(first
   |(refine nG rfl (some 3) rfl _ rfl _ BE ?_;intro g3 Z U W q;have X:=dM q;have N:=dM U;clear q U;try go_frame)
   |(refine nn rfl none rfl _ (.tmp 3) (.tmp 12) rfl g3 0 [.int .i64 j.kind,.int .i64 j.n,.string j.s,.slice M j.l.length c4,.slice E j.k.length F] rfl rfl _ _ W (by simp[zeros5]) m8 (by intro v B;simp at B;rcases B with rfl|rfl|rfl|rfl|rfl<;>rfl) ?_;intro Y I q;rw[nr _ _ (by simp[zeros5])]at I;have af:=dM q;have O:=((ar.out.grownN X.out).grown q (fun e=>by injection e with e;have:=N.out;have:=ab.out;omega));have ag:=dM I;clear q W;try go_frame)
   |(refine pO rfl (some 15) rfl _ (.tmp 3) rfl g3 0 rfl _ _ I [.int .i64 j.kind,.int .i64 j.n,.string j.s,.slice M j.l.length c4,.slice E j.k.length F] (fun i v B=>by rw[eL];exact B) _ ed rfl m8 ?_;try go_frame)
   |(refine nn rfl none rfl _ (.tmp 17) (.tmp 15) rfl G 4 [.int .i64 j.kind,.int .i64 j.n,.string j.s,.slice M j.l.length c4,.slice E j.k.length F] rfl rfl _ _ O (by simp) m8 (by intro v B;simp at B;rcases B with rfl|rfl|rfl|rfl|rfl<;>rfl) ?_;intro D V q;have ad:Hid (Blk D G 65 [c0,v1,c2,c3,.int .i64 j.kind,.int .i64 j.n,.string j.s,.slice M j.l.length c4,.slice E j.k.length F,k0,k1]):=dM V;have ae:=dM q;have Q:some g3≠some G:=(fun e=>by injection e with e;have:=N.out;have:=ab.out;omega);have y:=(ag.out.grown q Q);have y0:D.cell? ⟨g3,0,none⟩=some (.int .i64 j.kind):=y.cell 0;have y4:D.cell? ⟨g3,4,none⟩=some (.slice E j.k.length F):=y.cell 4;clear q V I O y Q;try go_frame)
   |(go_at_call 65;fail))
   obtain⟨g1,g2⟩:=au.out _ _ _ _ X.out af.out N.out ae.out
   obtain⟨vk,A9,c9,e9, -,aN, -, -⟩:=RepJ.open (RepS.toJ _ _ g2)
   have e9:=eH (fun v=>match v with| .agg cs=>cs.getD 4 .nilIface|_=> .nilIface) e9
   replace e9:Value.slice E j.k.length F=vk:=e9
   subst e9
   obtain⟨A8,c8,e8,aM,aC⟩:=aN
   injection e8 with e8 _ aQ
   subst e8;subst aQ
   have am:=nO D (.cells #[.string ⟨#[97,108,103]⟩,.string ⟨#[107,105,100]⟩,.string ⟨#[116,121,112]⟩] 9)
   have aA:LiesN D E j.k:=fun aK=>by
    obtain⟨b,o,e,aj,aP⟩:=aC aK
    refine⟨b,o,e,aj,fun i x hi=> ?_⟩
    obtain⟨t,h1,_,h2⟩:=aP i (eP.1 hi).1
    rw[hi]at h1
    injection h1 with h1
    rw[h1];exact h2
   have ay:yy (D.alloc (.cells #[.string ⟨#[97,108,103]⟩,.string ⟨#[107,105,100]⟩,.string ⟨#[116,121,112]⟩] 9)) (.slice (some ⟨D.heap.size,0,none⟩) 3 3) [sAlg,sKid,sTyp]:=by
    refine⟨_,3,rfl,by decide,fun _=>⟨_,0,rfl,by simp,fun i x hi=> ?_⟩,fun x hx=> ?_⟩
    ·rw[eL,j6]
     match i,hi with
     |0,hi=>injection hi with hi;subst hi;rfl
     |1,hi=>injection hi with hi;subst hi;rfl
     |2,hi=>injection hi with hi;subst hi;rfl
    ·simp at hx;rcases hx with rfl|rfl|rfl<;>decide
   have ao:=dM (tt E F _ j.k [sAlg,sKid,sTyp] _ (aA.below am) aF.out.2 ay (by have:=aF.out.1;omega) (by decide))
   rw[←HF.out]at ao
   have aG:=dM (And.intro g1 g2)
   have aH:=dM am
   clear g1 g2 aM aC am aA ay HF
   refine ao.out.mono ?_
   rintro e w6 ⟨rfl,L⟩
   have av:=yab aH L
   clear L ao
   go_wp2
   go_ret
   exact⟨aG.out.1.trans ((od av.out none).but _),_,_,_,_,_,rfl,ad.out.below av.out ad.out.lt,RepS.keeps (Keeps.grown (od av.out none) (fun b _ e=>by cases e)) (fun _ h _=>h) _ _ aG.out.2⟩
def initO:List Value:=[.string ⟨#[]⟩,.slice none 0 0,.slice none 0 0,.slice none 0 0,.int .i64 0,.int .i64 0,.string ⟨#[]⟩,.slice none 0 0,.slice none 0 0,.string ⟨#[]⟩,.string ⟨#[]⟩]
def PartsV (ob:Nat) (text body:ByteArray) (a b c:List Int) (v1 v2 v3:Value) (W:World):Prop:=a_ body=a++46::b∧PtAt W ob v1 (g_ a)∧PtAt W ob v2 (g_ b)∧PtAt W ob v3 (g_ c)
def VLate (ks:List mV) (kind text:ByteArray) (ob:Nat) (a b c:List Int) (i:Nat) (W:World):Prop:=
 ∃body v1 v2 v3 h0 h1 h2 h3 h4 k0 k1,PartsV ob text body a b c v1 v2 v3 W∧Blk W ob 65 [.string body,v1,v2,v3,h0,h1,h2,h3,h4,k0,k1]∧RepS W (fun x=>x≠ob) (nN (g_ a)).1 (.agg #[h0,h1,h2,h3,h4])∧qa (g_ a)=true∧
  (5<i→nk (nN (g_ a)).1 sAlg sHS=true)∧(6<i→nk (nN (g_ a)).1 sTyp kind=true)∧
  (7<i→ ∃k,ks.find? (fun k=>nk (nN (g_ a)).1 sKid k.1)=some k∧k0= .string k.1∧k1= .string k.2∧(8<i→nA (a_ k.2) (a++46::b)=g_ c))
def VF (ks:List mV) (kind text:ByteArray) (ob:Nat):Nat→World→Prop
 |0,W=>vZ ks kind text 0∧Blk W ob 65 initO
 |1,W=>vZ ks kind text 1∧Blk W ob 65 initO
 |2,W=>vZ ks kind text 2∧Blk W ob 65 initO
 |3,W=>vZ ks kind text 3∧Blk W ob 65 initO
 |4,W=>vZ ks kind text 3∧ ∃a b c body v1 v2 v3,nD (a_ text)=some (a,b,c)∧PartsV ob text body a b c v1 v2 v3 W∧Blk W ob 65 (.string body::v1::v2::v3::initO.drop 4)
 |i+5,W=>vZ ks kind text 3∧ ∃a b c,nD (a_ text)=some (a,b,c)∧VLate ks kind text ob a b c (i+5) W
theorem PartsV.below {F:Nat} {E G:ByteArray} {a b c:List Int} {D B v3:Value} {W I:World} (h:PartsV F E G a b c D B v3 W) (q:Below W.heap.size W I):PartsV F E G a b c D B v3 I:=
 ⟨h.1,h.2.1.grown (od q none) (.inl rfl),h.2.2.1.grown (od q none) (.inl rfl),h.2.2.2.grown (od q none) (.inl rfl)⟩
theorem PartsV.grown {q:Nat} {F G:ByteArray} {a b c:List Int} {E D v3:Value} {W I:World} (h:PartsV q F G a b c E D v3 W) (B:W.grownBy I (some q)):PartsV q F G a b c E D v3 I:=
 ⟨h.1,h.2.1.grown B (.inr rfl),h.2.2.1.grown B (.inr rfl),h.2.2.2.grown B (.inr rfl)⟩
theorem VLate.below {ks:List mV} {kind B:ByteArray} {D:Nat} {a b c:List Int} {i:Nat} {W F:World} (h:VLate ks kind B D a b c i W) (q:Below W.heap.size W F):VLate ks kind B D a b c i F:=by
 obtain⟨X,I,G,v3,h0,h1,Q,O,N,M,L,g1,E,g3,g4,V,U,R⟩:=h
 exact⟨X,I,G,v3,h0,h1,Q,O,N,M,L,g1.below q,E.below q E.lt,RepS.keeps (Keeps.grown (od q none) (fun b _ e=>by cases e)) (fun _ h _=>h) _ _ g3,g4,V,U,R⟩
theorem VF.below {ks:List mV} {kind B:ByteArray} {D:Nat}: ∀{i:Nat} {W F:World},VF ks kind B D i W→Below W.heap.size W F→VF ks kind B D i F
 |0,_,_,h,hb=>⟨h.1,h.2.below hb h.2.lt⟩
 |1,_,_,h,hb=>⟨h.1,h.2.below hb h.2.lt⟩
 |2,_,_,h,hb=>⟨h.1,h.2.below hb h.2.lt⟩
 |3,_,_,h,hb=>⟨h.1,h.2.below hb h.2.lt⟩
 |4,_,_,h,hb=>by
  obtain⟨h0,a,b,c,L,I,G,v3,h1,q,E⟩:=h
  exact⟨h0,a,b,c,L,I,G,v3,h1,q.below hb,E.below hb E.lt⟩
 |i+5,_,_,h,hb=>by
  obtain⟨h0,a,b,c,h1,q⟩:=h
  exact⟨h0,a,b,c,h1,q.below hb⟩
theorem Ed {ks:List mV} {kind q:ByteArray} (h:vZ ks kind q 3):nu ks kind q=match nD (a_ q)with
 |none=>([],[],80)
 |some (a,b,c)=>oe ks kind a b c:=by
 obtain⟨h1,D,B⟩:=h
 have:=B (by decide)
 unfold nu
 rw[dN (by rw[h1 (by decide)];decide),dN (by rw[D (by decide)];decide),dN (by omega)]
 cases nD (a_ q)with
 |none=>rfl
 |some p=>obtain⟨a,b,c⟩:=p;rfl
theorem rx (D:World) (B b:Nat) (no:Int) (Q:ByteArray) (q:Nat) (first L:Array Value) (r:Bool) (VI G:World→Prop) (E:Value→World→Prop) (X:no≠0) (Y: ∀args w,(callFunc q args).run prog w= .ok (.enter q args) w)
  (hU:UnlAt D b no Q q first L) (O:B<b) (hV: ∀W N,G W→Below W.heap.size W N→G N)
  (V: ∀W,D.grownBy W (some B)→VI W→Calls prog q (first++L) W fun e w'=>e= .returned (.bool r)∧W.grownBy w' (some B)∧(r=true→G w'))
  (hE:r=false→ ∀W M,D.grownBy W (some B)→W.cell? ⟨M,0,none⟩=some (.iface 54 (.int .i64 no))→E (.iface 97 (.pointer (some ⟨M,0,none⟩))) W):
  ErrAsk 61 #[.pointer (some ⟨b+2,0,none⟩),.pointer (some ⟨b,0,none⟩),.pointer (some ⟨b+1,0,none⟩)] (fun W=>D.grownBy W (some B)∧VI W) (fun W=>D.grownBy W (some B)∧G W) E:=by
 have R: ∀W,D.grownBy W (some B)→UnlAt W b no Q q first L:=fun W I=>hU.grown I (fun e=>by injection e with e;omega) (fun e=>by injection e with e;omega) (fun e=>by injection e with e;omega)
 refine ErrAsk.unl b no Q q first L r _ _ E (fun W=>D.grownBy W (some B)∧(r=true→G W)) X Y (fun W h=>R W h.1) (fun W h=>R W h.1) (fun W N h O=>⟨h.1.trans ((od O none).but _),fun F=>hV W N (h.2 F) O⟩) ?_ (fun F W h=>⟨h.1,h.2 F⟩) (fun F W M h Z=>hE F W M h.1 Z)
 rintro W ⟨I,U⟩
 refine(V W I U).mono ?_
 rintro e w' ⟨rfl,h1,h2⟩
 exact⟨rfl,I.trans h1,h2⟩
def Nw:ByteArray:=⟨#[110,111,116,32,116,104,114,101,101,32,112,97,114,116,115,32,111,102,32,98,97,115,101,54,52,117,114,108]⟩
def Nv:ByteArray:=⟨#[97,32,104,101,97,100,101,114,32,111,102,32,97,110,111,116,104,101,114,32,102,111,114,109]⟩
def Nu:ByteArray:=⟨#[97,110,111,116,104,101,114,32,97,108,103,111,114,105,116,104,109]⟩
def Nt:ByteArray:=⟨#[97,110,111,116,104,101,114,32,107,105,110,100]⟩
def Ns:ByteArray:=⟨#[110,111,32,107,101,121,32,111,102,32,116,104,97,116,32,110,97,109,101]⟩
def Nr:ByteArray:=⟨#[97,110,111,116,104,101,114,32,116,97,103]⟩
theorem I0: ∀args w,(callFunc 29 args).run prog w= .ok (.enter 29 args) w:=gJ func29 (by kernel_rfl) rfl
theorem IZ: ∀args w,(callFunc 32 args).run prog w= .ok (.enter 32 args) w:=gJ func32 (by kernel_rfl) rfl
theorem IY: ∀args w,(callFunc 34 args).run prog w= .ok (.enter 34 args) w:=gJ func34 (by kernel_rfl) rfl
theorem IX: ∀args w,(callFunc 35 args).run prog w= .ok (.enter 35 args) w:=gJ func35 (by kernel_rfl) rfl
theorem I1: ∀args w,(callFunc 31 args).run prog w= .ok (.enter 31 args) w:=gJ func31 (by kernel_rfl) rfl
theorem I2: ∀args w,(callFunc 37 args).run prog w= .ok (.enter 37 args) w:=gJ func37 (by kernel_rfl) rfl
theorem Ds (q:ByteArray) (p B:Nat) (w:World) (hp:w.cell? ⟨p,0,none⟩=some (.string q)) (I:Blk w B 65 initO) (L:MaxLW w) (X:q.size≤4096):
  Calls prog 29 #[.pointer (some ⟨B,0,none⟩),.pointer (some ⟨p,0,none⟩)] w (vW w B q (initO.drop 4)):=by
 have HC:=dM (Fc q B _ _ _ _ _ w I (by intro v F x;simp[initO]at F;rcases F with rfl|rfl|rfl|rfl|rfl|rfl|rfl|rfl|rfl|rfl|rfl<;>simp) L X)
 clear I L
 go_enter func29,ntmps29
 go_wp2_with fail
 refine HC.out.mono ?_
 rintro e Z ⟨G,h⟩
 have U:=dM G
 have E:=dM h
 clear G h
 rcases E.out with⟨h1,rfl⟩|⟨a,b,c,Y,W,V,v3,h1,rfl,R,Q,O,N,M⟩
 ·have D:=dM h1
  clear h1 E
  go_wp2
  go_ret
  exact⟨U.out,.inl ⟨D.out,rfl⟩⟩
 ·have D:=dM (And.intro h1 (And.intro R (And.intro Q (And.intro O (And.intro N M)))))
  clear h1 R Q O N M E
  go_wp2
  go_ret
  exact⟨U.out,.inr ⟨a,b,c,Y,W,V,v3,D.out.1,rfl,D.out.2⟩⟩
theorem DH (j:J) (q:Nat) (c0 c1 c2 c3 h0 h1 E D B:Value) (rest:List Value) (w:World) (L:Blk w q 65 (c0::c1::c2::c3::h0::h1::E::D::B::rest)) (I:RepJ w j (.agg #[h0,h1,E,D,B])) (F: ∀x∈j.l,Sm x):
  Calls prog 32 #[.pointer (some ⟨q,0,none⟩)] w fun e w'=>e= .returned (.bool (nk j sAlg sHS))∧Below w.heap.size w w':=by
 have HC:=dM (KA j q c0 c1 c2 c3 h0 h1 E D B rest sAlg sHS w L I F (by decide))
 obtain⟨r,G⟩:=yaa (nk j sAlg sHS)
 rw[←G]at HC⊢
 clear L I F G
 go_enter func32,ntmps32
 go_wp2_with fail
 refine HC.out.mono ?_
 rintro e O ⟨rfl,M⟩
 have N:=dM M
 clear M
 go_wp2
 go_ret
 exact⟨rfl,N.out⟩
theorem BY (j:J) (q p:Nat) (kind:ByteArray) (c0 c1 c2 c3 h0 h1 E D B:Value) (rest:List Value) (w:World) (R:w.cell? ⟨p,0,none⟩=some (.string kind)) (L:Blk w q 65 (c0::c1::c2::c3::h0::h1::E::D::B::rest)) (I:RepJ w j (.agg #[h0,h1,E,D,B])) (F: ∀x∈j.l,Sm x) (N:kind.size≤9223372036854775807):
  Calls prog 34 #[.pointer (some ⟨q,0,none⟩),.pointer (some ⟨p,0,none⟩)] w fun e w'=>e= .returned (.bool (nk j sTyp kind))∧Below w.heap.size w w':=by
 have HC:=dM (KA j q c0 c1 c2 c3 h0 h1 E D B rest sTyp kind w L I F N)
 obtain⟨r,G⟩:=yaa (nk j sTyp kind)
 rw[←G]at HC⊢
 clear L I F G
 go_enter func34,ntmps34
 go_wp2_with fail
 refine HC.out.mono ?_
 rintro e Q ⟨rfl,M⟩
 have O:=dM M
 clear M
 go_wp2
 go_ret
 exact⟨rfl,O.out⟩
theorem Ba (j:J) (ks:List mV) (A:Option Addr) (n c p:Nat) (B:Nat) (c0 c1 c2 c3 h0 h1 q E D L I:Value) (w:World) (hp:w.cell? ⟨p,0,none⟩=some (.slice A n c)) (W:Blk w B 65 [c0,c1,c2,c3,h0,h1,q,E,D,L,I]) (U:RepS w (fun b=>b≠B) j (.agg #[h0,h1,q,E,D])) (M: ∀x∈j.l,Sm x)
  (Q:ks.length=n) (Y:n≤1000000) (R:KeyOk ks) (O:RingAt w A ks):
  Calls prog 35 #[.pointer (some ⟨B,0,none⟩),.pointer (some ⟨p,0,none⟩)] w (rC w B [c0,c1,c2,c3,h0,h1,q,E,D] (ks.find? fun k=>nk j sKid k.1)):=by
 have HC:=dM (vq j ks A n c B c0 c1 c2 c3 h0 h1 q E D L I w W U M Q Y R O)
 obtain⟨r,N⟩:=yaa ((ks.find? fun k=>nk j sKid k.1))
 rw[←N]at HC⊢
 clear W U M N Q R O
 go_enter func35,ntmps35
 go_wp2_with fail
 refine HC.out.mono ?_
 rintro e Z ⟨V,h⟩
 have X:=dM V
 have G:=dM h
 clear V h
 rcases G.out with⟨h1,rfl⟩|⟨k,h1,rfl,q⟩
 ·have F:=dM h1
  clear h1 G
  go_wp2
  go_ret
  exact⟨X.out,.inl ⟨F.out,rfl⟩⟩
 ·have F:=dM (And.intro h1 q)
  clear h1 q G
  go_wp2
  go_ret
  exact⟨X.out,.inr ⟨k,F.out.1,rfl,F.out.2⟩⟩
theorem ErrAsk.void {g:Nat} {D:Array Value} {I J:World→Prop} {E:Value→World→Prop} (q: ∀args w,(callFunc g args).run prog w= .ok (.enter g args) w) (h: ∀W,¬I W):ErrAsk g D I J E:=⟨q,fun W B=>absurd B (h W)⟩
theorem Ls {l:List Int} (h:qa l=true):(nN l).2.1=0∧ ∀x∈(nN l).1.l,Sm x:=by
 unfold qa at h
 rw[fb,fb,eb]at h
 refine⟨h.1.1,fun x q=> ?_⟩
 have B:=(M5 h.1.1).1
 cases hp:(nN l).1 with
 |mk kind n s ls k=>
  rw[hp]at B q
  cases B with
  |mk a1 a2 a3=>exact a3 x q
theorem LZ {l a b c:List Int} (h:nD l=some (a,b,c)):px l=[a,b,c]∧nM a= -1∧nM b= -1∧nM c= -1:=by
 unfold nD at h
 split at h
 ·rename_i x y z e
  split at h
  ·rename_i B
   injection h with h
   injection h with h1 q
   injection q with q D
   subst h1;subst q;subst D
   exact⟨e,B⟩
  ·cases h
 ·cases h
theorem F5 {l a b c p:List Int} (h:nD l=some (a,b,c)) (q:p∈[a,b,c]) (F:l.length≤4096):Bytes (g_ p)∧(g_ p).length≤4096:=by
 obtain⟨h1,E,D,B⟩:=LZ h
 have G:=(Il l p (by rw[h1];exact q)).2.2
 refine⟨?_,by rw[Ga];omega⟩
 simp at q
 rcases q with rfl|rfl|rfl
 ·exact JX (Good.of_fault E)
 ·exact JX (Good.of_fault D)
 ·exact JX (Good.of_fault B)
structure VLay (w4:World) (ob z:Nat) (A:Option Addr) (n c:Nat) (kind text:ByteArray):Prop where
 hz:ob<z
 pr: ∃p,p<ob∧w4.cell? ⟨p,0,none⟩=some (.slice A n c)∧UnlAt w4 (z+21) 83 Ns 35 #[] #[.pointer (some ⟨ob,0,none⟩),.pointer (some ⟨p,0,none⟩)]
 pk: ∃p,p<ob∧w4.cell? ⟨p,0,none⟩=some (.string kind)∧UnlAt w4 (z+18) 81 Nt 34 #[] #[.pointer (some ⟨ob,0,none⟩),.pointer (some ⟨p,0,none⟩)]
 pt: ∃p,p<ob∧w4.cell? ⟨p,0,none⟩=some (.string text)∧UnlAt w4 (z+9) 80 Nw 29 #[] #[.pointer (some ⟨ob,0,none⟩),.pointer (some ⟨p,0,none⟩)]
 u4:UnlAt w4 (z+12) 81 Nv 31 #[.pointer (some ⟨ob,0,none⟩)] #[]
 u5:UnlAt w4 (z+15) 82 Nu 32 #[] #[.pointer (some ⟨ob,0,none⟩)]
 u8:UnlAt w4 (z+24) 84 Nr 37 #[.pointer (some ⟨ob,0,none⟩)] #[]
def VE (ks:List mV) (kind text:ByteArray) (w4:World) (ob:Nat) (v:Value) (W:World):Prop:= ∃m,m≠0∧nu ks kind text=([],[],m)∧WErr m v W∧w4.grownBy W (some ob)
def VI (ks:List mV) (kind text:ByteArray) (w4:World) (ob:Nat) (i:Nat) (W:World):Prop:=w4.grownBy W (some ob)∧VF ks kind text ob i W
abbrev pm (b:Nat):Array Value:= #[.pointer (some ⟨b+2,0,none⟩),.pointer (some ⟨b,0,none⟩),.pointer (some ⟨b+1,0,none⟩)]
section
variable {ks:List mV} {kind text:ByteArray} {w4:World} {ob z:Nat} {A:Option Addr} {n c:Nat}
theorem Ja (h:VLay w4 ob z A n c kind text) (V: ∀W,w4.grownBy W (some ob)→Ask8 W):ErrAsk 61 (pm (z+9)) (VI ks kind text w4 ob 3) (VI ks kind text w4 ob 4) (VE ks kind text w4 ob):=by
 obtain⟨p,hp,O,M⟩:=h.pt
 by_cases q:vZ ks kind text 3
 case neg=>exact ErrAsk.void (gJ kg (by kernel_rfl) rfl) fun W U=>q U.2.1
 refine rx w4 ob (z+9) 80 Nw _ #[] _ (nD (a_ text)).isSome _ _ _ (by decide) I0 M (by have:=h.hz;omega) (fun W W' L R=>VF.below L R) ?_ ?_
 ·rintro W B ⟨_,Q⟩
  refine(Ds text p ob W (B.cell O (fun e=>by injection e with e;exact absurd e (by show ¬p=ob;omega))) Q (V W B).maxl (q.2.2 (by decide))).mono ?_
  rintro e w' ⟨h1,D|⟨a,b,c',aa,I,G,v3,g1,g2,g3,g4,Z,Y,X⟩⟩
  ·exact⟨by rw[D.1];exact D.2,h1,fun E=>by rw[D.1]at E;cases E⟩
  ·exact⟨by rw[g1];exact g2,h1,fun _=>⟨q,a,b,c',aa,I,G,v3,g1,⟨g3,Z,Y,X⟩,g4⟩⟩
 ·intro F W b' B N
  refine⟨80,by decide,?_,Eh (by decide) N,B⟩
  rw[Ed q]
  cases hq:nD (a_ text)with
  |none=>rfl
  |some p=>rw[hq]at F;cases F
theorem I_ {a b F:List Int} (h:VLay w4 ob z A n c kind text) (hcut:nD (a_ text)=some (a,b,F)) (B:vZ ks kind text 3) (hM: ∀W,w4.grownBy W (some ob)→Ask8 W):ErrAsk 61 (pm (z+12)) (VI ks kind text w4 ob 4) (VI ks kind text w4 ob 5) (VE ks kind text w4 ob):=by
 obtain⟨d1,d2⟩:=F5 (p:=a) hcut (by simp) (by rw[j_];exact B.2.2 (by decide))
 refine rx w4 ob (z+12) 81 Nv _ #[.pointer (some ⟨ob,0,none⟩)] #[] (qa (g_ a)) _ _ _ (by decide) I1 h.u4 (by have:=h.hz;omega) (fun W W' V Z=>VF.below V Z) ?_ ?_
 ·rintro W D ⟨_,a1,b1,c1,M,v1,G,v3,e,I,L⟩
  rw[hcut]at e
  injection e with e
  injection e with e1 E
  injection E with E e3
  subst e1;subst E;subst e3
  obtain⟨A1,U,rfl,aa,X⟩:=I.2.1
  refine(N5 ob (g_ a) (.string M) G v3 _ _ _ _ _ _ _ A1 (g_ a).length U W L rfl (by omega) d1 (Lies.of X) (hM W D).ask).mono ?_
  rintro e w' ⟨h1,h0,R,Q,O,N,g1,g2,g3⟩
  refine⟨g1,h1,fun q=>⟨B,a,b,F,hcut,M,_,G,v3,h0,R,Q,O,N,_,_,I.grown h1,g2,?_,q,fun h=>absurd h (by decide),fun h=>absurd h (by decide),fun h=>absurd h (by decide)⟩⟩
  exact RepS.keeps (Keeps.refl _ w') (fun x hx _=>by have:=L.lt;show x≠ob;omega) _ _ g3
 ·intro q W b' D Y
  refine⟨81,by decide,?_,Eh (by decide) Y,D⟩
  rw[Ed B,hcut]
  show oe ks kind a b F=_
  unfold oe
  rw[dP q]
theorem pP {a b B:List Int} {i:Nat} {W:World} (hcut:nD (a_ text)=some (a,b,B)) (h:VF ks kind text ob (i+5) W):VLate ks kind text ob a b B (i+5) W:=by
 obtain⟨_,a1,G,c1,e,D⟩:=h
 rw[hcut]at e
 injection e with e
 injection e with F q
 injection q with q E
 subst F;subst q;subst E
 exact D
theorem I9 {a b F:List Int} (h:VLay w4 ob z A n c kind text) (hcut:nD (a_ text)=some (a,b,F)) (L:vZ ks kind text 3):ErrAsk 61 (pm (z+15)) (VI ks kind text w4 ob 5) (VI ks kind text w4 ob 6) (VE ks kind text w4 ob):=by
 by_cases E:qa (g_ a)=true
 case neg=>
  refine ErrAsk.void (gJ kg (by kernel_rfl) rfl) fun W Z=> ?_
  obtain⟨_,_,_,_,_,_,_,_,_,_,_,_,_,_,g,_⟩:=pP (i:=0) hcut Z.2
  exact E g
 obtain⟨s1,X⟩:=Ls E
 refine rx w4 ob (z+15) 82 Nu _ #[] _ (nk (nN (g_ a)).1 sAlg sHS) _ _ _ (by decide) IZ h.u5 (by have:=h.hz;omega) (fun W W' B q=>VF.below B q) ?_ ?_
 ·rintro W M B
  obtain⟨aa,V,U,v3,h0,h1,Q,O,N,I,G,g1,R,g3,g4,g5,g6,g7⟩:=pP (i:=0) hcut B
  refine(DH _ ob _ _ _ _ h0 h1 Q O N [I,G] W R (RepS.toJ _ _ g3) X).mono ?_
  rintro e w' ⟨rfl,q⟩
  refine⟨rfl,(od q none).but _,fun D=>⟨L,a,b,F,hcut,VLate.below (i:=6) ⟨aa,V,U,v3,h0,h1,Q,O,N,I,G,g1,R,g3,g4,fun _=>D,fun h=>absurd h (by decide),fun h=>absurd h (by decide)⟩ q⟩⟩
 ·intro D W b' M Y
  refine⟨82,by decide,?_,Eh (by decide) Y,M⟩
  rw[Ed L,hcut]
  show oe ks kind a b F=_
  unfold oe
  rw[dN (by rw[E];decide),dP D]
theorem I8 {a b I:List Int} (h:VLay w4 ob z A n c kind text) (hcut:nD (a_ text)=some (a,b,I)) (F:vZ ks kind text 3):ErrAsk 61 (pm (z+18)) (VI ks kind text w4 ob 6) (VI ks kind text w4 ob 7) (VE ks kind text w4 ob):=by
 obtain⟨p,hp,hc,Z⟩:=h.pk
 by_cases q:qa (g_ a)=true∧nk (nN (g_ a)).1 sAlg sHS=true
 case neg=>
  refine ErrAsk.void (gJ kg (by kernel_rfl) rfl) fun W hW=> ?_
  obtain⟨_,_,_,_,_,_,_,_,_,_,_,_,_,_,g4,R,_⟩:=pP (i:=1) hcut hW.2
  exact q ⟨g4,R (by decide)⟩
 obtain⟨s1,Y⟩:=Ls q.1
 refine rx w4 ob (z+18) 81 Nt _ #[] _ (nk (nN (g_ a)).1 sTyp kind) _ _ _ (by decide) IY Z (by have:=h.hz;omega) (fun W W' D B=>VF.below D B) ?_ ?_
 ·rintro W G D
  obtain⟨ab,X,V,v3,h0,h1,Q,O,N,M,L,g1,U,g3,g4,R,g6,g7⟩:=pP (i:=1) hcut D
  refine(BY _ ob p kind _ _ _ _ h0 h1 Q O N [M,L] W (G.cell hc (fun e=>by injection e with e;exact absurd e (by show ¬p=ob;omega))) U (RepS.toJ _ _ g3) Y (by have:=Hk (F.2.1 (by decide));omega)).mono ?_
  rintro e w' ⟨rfl,B⟩
  refine⟨rfl,(od B none).but _,fun E=>⟨F,a,b,I,hcut,VLate.below (i:=7) ⟨ab,X,V,v3,h0,h1,Q,O,N,M,L,g1,U,g3,g4,fun _=>q.2,fun _=>E,fun h=>absurd h (by decide)⟩ B⟩⟩
 ·intro E W b' G aa
  refine⟨81,by decide,?_,Eh (by decide) aa,G⟩
  rw[Ed F,hcut]
  show oe ks kind a b I=_
  unfold oe
  rw[dN (by rw[q.1];decide),dN (by rw[q.2];decide),dP E]
theorem I7 {a b M:List Int} (h:VLay w4 ob z A n c kind text) (hcut:nD (a_ text)=some (a,b,M)) (I:vZ ks kind text 3) (hn:ks.length=n) (hk:KeyOk ks) (hR: ∀W,w4.grownBy W (some ob)→RingAt W A ks):ErrAsk 61 (pm (z+21)) (VI ks kind text w4 ob 7) (VI ks kind text w4 ob 8) (VE ks kind text w4 ob):=by
 obtain⟨p,hp,hc,hu⟩:=h.pr
 by_cases q:qa (g_ a)=true∧nk (nN (g_ a)).1 sAlg sHS=true∧nk (nN (g_ a)).1 sTyp kind=true
 case neg=>
  refine ErrAsk.void (gJ kg (by kernel_rfl) rfl) fun W hW=> ?_
  obtain⟨_,_,_,_,_,_,_,_,_,_,_,_,_,_,g4,L,R,_⟩:=pP (i:=2) hcut hW.2
  exact q ⟨g4,L (by decide),R (by decide)⟩
 obtain⟨s1,X⟩:=Ls q.1
 have ad:=(Hl (I.1 (by decide))).2.1
 refine rx w4 ob (z+21) 83 Ns _ #[] _ (ks.find? fun k=>nk (nN (g_ a)).1 sKid k.1).isSome _ _ _ (by decide) IX hu (by have:=h.hz;omega) (fun W W' G hb=>VF.below G hb) ?_ ?_
 ·rintro W F G
  obtain⟨ab,V,U,v3,h0,h1,Q,O,N,k0,Z,g1,g2,g3,g4,L,R,g7⟩:=pP (i:=2) hcut G
  refine(Ba _ ks A n c p ob _ _ _ _ h0 h1 Q O N k0 Z W (F.cell hc (fun e=>by injection e with e;exact absurd e (by show ¬p=ob;omega))) g2 g3 X hn (by omega) hk (hR W F)).mono ?_
  rintro e w' ⟨E,⟨D,rfl⟩|⟨k,D,rfl,Y⟩⟩
  ·exact⟨by rw[D];rfl,E,fun B=>by rw[D]at B;cases B⟩
  ·refine⟨by rw[D];rfl,E,fun B=>⟨I,a,b,M,hcut,ab,V,U,v3,h0,h1,Q,O,N,.string k.1,.string k.2,g1.grown E,Y,?_,g4,L|>fun _ _=>q.2.1,fun _=>q.2.2,fun _=>⟨k,D,rfl,rfl,fun h=>absurd h (by decide)⟩⟩⟩
   exact RepS.keeps (Keeps.grown E (fun x hx e=>hx (by injection e))) (fun _ h _=>h) _ _ g3
 ·intro B W b' F aa
  refine⟨83,by decide,?_,Eh (by decide) aa,F⟩
  rw[Ed I,hcut]
  show oe ks kind a b M=_
  unfold oe
  rw[dN (by rw[q.1];decide),dN (by rw[q.2.1];decide),dN (by rw[q.2.2];decide)]
  cases hq:ks.find? (fun k=>nk (nN (g_ a)).1 sKid k.1)with
  |none=>rfl
  |some p=>rw[hq]at B;cases B
theorem I6 {a b q:List Int} (h:VLay w4 ob z A n c kind text) (hcut:nD (a_ text)=some (a,b,q)) (B:vZ ks kind text 3) (hM: ∀W,w4.grownBy W (some ob)→Ask8 W):ErrAsk 61 (pm (z+24)) (VI ks kind text w4 ob 8) (VI ks kind text w4 ob 9) (VE ks kind text w4 ob):=by
 by_cases X:qa (g_ a)=true∧nk (nN (g_ a)).1 sAlg sHS=true∧nk (nN (g_ a)).1 sTyp kind=true∧ ∃k,ks.find? (fun k=>nk (nN (g_ a)).1 sKid k.1)=some k
 case neg=>
  refine ErrAsk.void (gJ kg (by kernel_rfl) rfl) fun W hW=> ?_
  obtain⟨_,_,_,_,_,_,_,_,_,_,_,_,_,_,g4,N,g6,M⟩:=pP (i:=3) hcut hW.2
  obtain⟨k,hk,_⟩:=M (by decide)
  exact X ⟨g4,N (by decide),g6 (by decide),k,hk⟩
 obtain⟨ag,V,U,k,E⟩:=X
 have af:=ky E
 have ak:=(Hl (B.1 (by decide))).2.2 k af
 have ab:=B.2.2 (by decide)
 obtain⟨d1,d2⟩:=F5 (p:=q) hcut (by simp) (by rw[j_];exact ab)
 have ah:=vB (LZ hcut).1
 have ae:=eH List.length ah
 simp only[dS,eu,j_]at ae
 refine rx w4 ob (z+24) 84 Nr _ #[.pointer (some ⟨ob,0,none⟩)] #[] (decide (nA (a_ k.2) (a++46::b)=g_ q)) _ _ _ (by decide) I2 h.u8 (by have:=h.hz;omega) (fun W W' G F=>VF.below G F) ?_ ?_
 ·rintro W L G
  obtain⟨O,R,Q,v3,h0,h1,h2,Z,Y,k0,k1,g1,g2,g3,g4,N,g6,M⟩:=pP (i:=3) hcut G
  obtain⟨k',D,rfl,rfl,_⟩:=M (by decide)
  rw[E]at D
  injection D with D
  subst D
  obtain⟨A3,k3,e3,am,ad⟩:=g1.2.2.2
  have aj:O.size≤1000000:=by
   have:=eH List.length g1.1
   simp only[dS,eu,j_]at this
   omega
  have aa:=g2
  rw[e3]at aa
  rw[←g1.1]
  refine(sq ob O k.1 k.2 R Q h0 h1 h2 Z Y A3 (g_ q).length k3 (g_ q) W aa rfl (by omega) d1 (Lies.of ad) (by omega) aj (hM W L).tabs).mono ?_
  rintro e w' ⟨rfl,F⟩
  refine⟨rfl,(od F none).but _,fun I=>⟨B,a,b,q,hcut,VLate.below (i:=9) ⟨O,R,Q,v3,h0,h1,h2,Z,Y,_,_,g1,g2,g3,g4,N|>fun _ _=>V,fun _=>U,fun _=>⟨k,E,rfl,rfl,fun _=>by rw[←g1.1];exact fG I⟩⟩ F⟩⟩
 ·intro I W b' L ai
  refine⟨84,by decide,?_,Eh (by decide) ai,L⟩
  rw[Ed B,hcut]
  show oe ks kind a b q=_
  unfold oe
  rw[dN (by rw[ag];decide),dN (by rw[V];decide),dN (by rw[U];decide),E]
  show(if nA (a_ k.2) (a++46::b)=g_ q then _ else _)=_
  rw[dN (jX I)]
end
theorem VLay.below {w w':World} {E z:Nat} {A:Option Addr} {n c:Nat} {kind D:ByteArray} (h:VLay w E z A n c kind D) (B:Below w.heap.size w w'):VLay w' E z A n c kind D:=by
 obtain⟨h0,⟨p,h1,I,Q⟩,⟨q,O,G,N⟩,⟨r,M,F,L⟩,u4,u5,u8⟩:=h
 exact⟨h0,⟨p,h1,(B.cell (nc I)).trans I,Q.below B⟩,⟨q,O,(B.cell (nc G)).trans G,N.below B⟩,⟨r,M,(B.cell (nc F)).trans F,L.below B⟩,u4.below B,u5.below B,u8.below B⟩
theorem zQ (ks:List mV) (A:Option Addr) (n c:Nat) (kind L:ByteArray) (F z:Nat) (w0 B:World) (hz:z=w0.heap.size) (G:Three w0 B A n c kind L) (hl:VLay B F z A n c kind L) (aa:Blk B F 65 initO)
  (hn:ks.length=n) (ag:n≤9223372036854775807) (af:n≤c) (hk:KeyOk ks) (hM: ∀W,B.grownBy W (some F)→Ask8 W) (hR: ∀W,B.grownBy W (some F)→RingAt W A ks):
  Calls prog 19 #[.slice (some ⟨B.heap.size,0,none⟩) 9 9] (B.alloc (.cells #[.func (.func 46) #[] #[.pointer (some ⟨z,0,none⟩)],ny (z+2),ny (z+6),ny (z+9),ny (z+12),ny (z+15),ny (z+18),ny (z+21),ny (z+24)] 50))
   fun e w'=>B.grownBy w' (some F)∧((e= .returned .nilIface∧VF ks kind L F 9 w')∨ ∃d x m,e= .returned (.iface d x)∧m≠0∧nu ks kind L=([],[],m)∧WErr m (.iface d x) w'):=by
 obtain⟨D,M⟩: ∃W,W=B.alloc (.cells #[.func (.func 46) #[] #[.pointer (some ⟨z,0,none⟩)],ny (z+2),ny (z+6),ny (z+9),ny (z+12),ny (z+15),ny (z+18),ny (z+21),ny (z+24)] 50):=⟨_,rfl⟩
 have O:Below B.heap.size B D:=by rw[M];exact nO _ _
 have Y:B.grownBy D (some F):=(od O none).but _
 have r0:D.cell? ⟨B.heap.size,0,none⟩=some (.func (.func 46) #[] #[.pointer (some ⟨z,0,none⟩)]):=by rw[M];simp
 have r1:D.cell? ⟨B.heap.size,1,none⟩=some (ny (z+2)):=by rw[M];simp
 have r2:D.cell? ⟨B.heap.size,2,none⟩=some (ny (z+6)):=by rw[M];simp
 have r3:D.cell? ⟨B.heap.size,3,none⟩=some (ny (z+9)):=by rw[M];simp
 have r4:D.cell? ⟨B.heap.size,4,none⟩=some (ny (z+12)):=by rw[M];simp
 have r5:D.cell? ⟨B.heap.size,5,none⟩=some (ny (z+15)):=by rw[M];simp
 have r6:D.cell? ⟨B.heap.size,6,none⟩=some (ny (z+18)):=by rw[M];simp
 have r7:D.cell? ⟨B.heap.size,7,none⟩=some (ny (z+21)):=by rw[M];simp
 have r8:D.cell? ⟨B.heap.size,8,none⟩=some (ny (z+24)):=by rw[M];simp
 rw[←M]
 clear M
 subst hz
 have h4:Three w0 D A n c kind L:=⟨G.bel.trans (O.mono G.bel.size),(O.cell (nc G.ring)).trans G.ring,(O.cell (nc G.kd)).trans G.kd,G.un.below O,(O.cell (nc G.tx)).trans G.tx,G.us.below O⟩
 have R:=hl.below O
 have k4:=aa.below O aa.lt
 have ab: ∀W,D.grownBy W (some F)→Ask8 W:=fun W Z=>hM W (Y.trans Z)
 have ae: ∀W,D.grownBy W (some F)→RingAt W A ks:=fun W Z=>hR W (Y.trans Z)
 have ai:=hl.hz
 have ah:=aa.lt
 obtain⟨I,X⟩: ∃I:Nat→World→Prop,I=VI ks kind L D F:=⟨_,rfl⟩
 obtain⟨E,hE⟩: ∃E:Value→World→Prop,E=VE ks kind L D F:=⟨_,rfl⟩
 obtain⟨a0,a1,a2⟩:=LY ks A n c kind L w0 D h4 hn ag af hk (some F) ae (fun b h1 _ e=>by injection e with e;omega) (fun W=>Blk W F 65 initO) (fun W W' hx _ hb=>hx.below hb hx.lt) I E
  (fun i hi=>by
   rw[X]
   match i,hi with
   |0,_=>rfl
   |1,_=>rfl
   |2,_=>rfl
   |3,_=>rfl)
  (fun v W m h1 h0 h2 G=>by
   rw[hE]
   refine⟨m,h0,?_,h2,G⟩
   rw[←h1]at h0⊢
   unfold rE at h0⊢
   unfold nu
   split
   ·rfl
   ·split
    ·rfl
    ·split
     ·rfl
     ·rename_i q1 q2 q3
      rw[dN q1,dN q2,dN q3]at h0
      exact absurd rfl h0)
 have a3:=Ja (ks:=ks) R ab
 have Q: ∀i f,4≤i→[(61:Nat),61,61,61,61][i-4]? =some f→i≤8→ErrAsk 61 (pm (w0.heap.size+(9+3*(i-3)))) (VI ks kind L D F i) (VI ks kind L D F (i+1)) (VE ks kind L D F):=fun i f hi _ h8=>by
  have ad:=gJ (P:=prog) kg (by kernel_rfl) rfl
  by_cases U:vZ ks kind L 3
  case neg=>
   refine ErrAsk.void ad fun W V=>U ?_
   match i,hi,h8 with
   |4,_,_=>exact V.2.1
   |i+5,_,_=>exact V.2.1
  cases hcut:nD (a_ L)with
  |none=>
   refine ErrAsk.void ad fun W V=> ?_
   match i,hi,h8 with
   |4,_,_=>obtain⟨_,a,b,c,_,_,_,_,h,_⟩:=V.2;rw[hcut]at h;cases h
   |i+5,_,_=>obtain⟨_,a,b,c,h,_⟩:=V.2;rw[hcut]at h;cases h
  |some p=>
   obtain⟨a,b,c'⟩:=p
   match i,hi,h8 with
   |4,_,_=>exact I_ R hcut U ab
   |5,_,_=>exact I9 R hcut U
   |6,_,_=>exact I8 R hcut U
   |7,_,_=>exact I7 R hcut U hn hk ae
   |8,_,_=>exact I6 R hcut U ab
   |i+9,_,h=>omega
 rw[←X,←hE]at a3 Q
 refine(Ln B.heap.size 9 9 [(46,#[.pointer (some ⟨w0.heap.size,0,none⟩)]),(61,pm (w0.heap.size+2)),(61,pm (w0.heap.size+6)),(61,pm (w0.heap.size+9)),(61,pm (w0.heap.size+12)),(61,pm (w0.heap.size+15)),(61,pm (w0.heap.size+18)),(61,pm (w0.heap.size+21)),(61,pm (w0.heap.size+24))] I E D rfl (by decide) ?_ ?_ ?_).mono ?_
 ·intro i f W q hi
  rw[X]at hi
  have N:some B.heap.size≠some F:=fun e=>by injection e with e;omega
  match i,q with
  |0,q=>injection q with q;subst q;exact hi.1.cell r0 N
  |1,q=>injection q with q;subst q;exact hi.1.cell r1 N
  |2,q=>injection q with q;subst q;exact hi.1.cell r2 N
  |3,q=>injection q with q;subst q;exact hi.1.cell r3 N
  |4,q=>injection q with q;subst q;exact hi.1.cell r4 N
  |5,q=>injection q with q;subst q;exact hi.1.cell r5 N
  |6,q=>injection q with q;subst q;exact hi.1.cell r6 N
  |7,q=>injection q with q;subst q;exact hi.1.cell r7 N
  |8,q=>injection q with q;subst q;exact hi.1.cell r8 N
 ·intro i f q
  match i,q with
  |0,q=>injection q with q;subst q;exact a0
  |1,q=>injection q with q;subst q;exact a1
  |2,q=>injection q with q;subst q;exact a2
  |3,q=>injection q with q;subst q;exact a3
  |4,q=>injection q with q;subst q;exact Q 4 _ (by decide) rfl (by decide)
  |5,q=>injection q with q;subst q;exact Q 5 _ (by decide) rfl (by decide)
  |6,q=>injection q with q;subst q;exact Q 6 _ (by decide) rfl (by decide)
  |7,q=>injection q with q;subst q;exact Q 7 _ (by decide) rfl (by decide)
  |8,q=>injection q with q;subst q;exact Q 8 _ (by decide) rfl (by decide)
 ·rw[X];exact⟨ov _ _,⟨fun h=>absurd h (by decide),fun h=>absurd h (by decide),fun h=>absurd h (by decide)⟩,k4⟩
 ·rintro e w' (⟨rfl,h⟩|⟨d,x,rfl,h⟩)
  ·rw[X]at h
   exact⟨Y.trans h.1,.inl ⟨rfl,h.2⟩⟩
  ·rw[hE]at h
   obtain⟨m,h1,h2,G,h4⟩:=h
   exact⟨Y.trans h4,.inr ⟨d,x,m,rfl,h1,h2,G⟩⟩
def G0 (ks:List mV) (kind text:ByteArray) (w:World) (e:Ending) (w':World):Prop:= ∃t u v,e= .returned (.tuple #[.string t,.string u,v])∧a_ t=(nu ks kind text).1∧a_ u=(nu ks kind text).2.1∧WErr (nu ks kind text).2.2 v w'∧Below w.heap.size w w'
theorem Hi (no:Int) (B:ByteArray) (q:Nat) (first D:Array Value) (w:World) (b:Nat) (h:w.heap.size=b):Calls prog 28 #[.int .i64 no,.string B,.func (.func q) first D] w fun e w'=>e= .returned (ny b)∧UnlAt w' b no B q first D∧w'.heap.size=b+3∧Below w.heap.size w w':=by
 subst h;exact Lk no B q first D w
theorem uz (s:ByteArray) (w:World) (b:Nat) (h:w.heap.size=b):Calls prog 21 #[.string s] w fun e w'=>e= .returned (ny (b+1))∧w'.cell? ⟨b,0,none⟩=some (.string s)∧UnlAt w' (b+1) 1 qd 47 #[] #[.pointer (some ⟨b,0,none⟩)]∧w'.heap.size=b+4∧Below w.heap.size w w':=by
 subst h;exact M2 s w
theorem sk (s:ByteArray) (w:World) (b:Nat) (h:w.heap.size=b):Calls prog 22 #[.string s] w fun e w'=>e= .returned (ny (b+1))∧w'.cell? ⟨b,0,none⟩=some (.string s)∧UnlAt w' (b+1) 2 DZ 49 #[] #[.pointer (some ⟨b,0,none⟩)]∧w'.heap.size=b+4∧Below w.heap.size w w':=by
 subst h;exact LC s w
theorem Three.below {w B D:World} {A:Option Addr} {n c:Nat} {kind E:ByteArray} (h:Three w B A n c kind E) (q:Below B.heap.size B D):Three w D A n c kind E:=
 ⟨h.bel.trans (q.mono h.bel.size),(q.cell (nc h.ring)).trans h.ring,(q.cell (nc h.kd)).trans h.kd,h.un.below q,(q.cell (nc h.tx)).trans h.tx,h.us.below q⟩
theorem Lb (ks:List mV) (A:Option Addr) (n c:Nat) (kind F:ByteArray) (w:World) (hn:ks.length=n) (bs:n≤9223372036854775807) (br:n≤c) (hk:KeyOk ks) (hr:RingAt w A ks) (ha:Ask8 w):
  Calls prog 14 #[.slice A n c,.string kind,.string F] w (G0 ks kind F w):=by
 have bH: ∀(fn:Fn) (first aR:Array Value) (w:World),(Instr.makeFunc fn first aR).run prog w= .ok (.func fn first aR) w:=fun _ _ _ _=>rfl
 have HA:=dM ha
 have HR:=dM hr
 have HN:=dM hn
 have HK:=dM hk
 clear ha hr hn hk
 go_enter func14,ntmps14
 go_wp2_with fail
 obtain⟨Q,N⟩: ∃W,W=((((w.alloc (.cells #[.slice A n c] 22)).alloc (.cells #[.string kind] 9)).alloc (.cells #[.string F] 9)).alloc (.cells #[.string ⟨#[]⟩,.slice none 0 0,.slice none 0 0,.slice none 0 0,.int .i64 0,.int .i64 0,.string ⟨#[]⟩,.slice none 0 0,.slice none 0 0,.string ⟨#[]⟩,.string ⟨#[]⟩] 65)):=⟨_,rfl⟩
 rw[←N]
 have ax:Hid (Below w.heap.size w Q.drew):=dM (by rw[N];exact(((((dU _ _).alloc (dQ _) _).alloc (by simp) _).alloc (by first|(simp;done)|(simp;omega)) _).alloc (by first|(simp;done)|(simp;omega)) _).drew)
 have aD:Q.heap.size=w.heap.size+4:=by rw[N];simp
 have x0:Q.cell? ⟨w.heap.size,0,none⟩=some (.slice A n c):=by rw[N,ei _ _ ⟨w.heap.size,0,none⟩ (by first|(simp;done)|(simp;omega)),ei _ _ ⟨w.heap.size,0,none⟩ (by first|(simp;done)|(simp;omega)),ei _ _ ⟨w.heap.size,0,none⟩ (by simp)];simp
 have x1:Q.cell? ⟨w.heap.size+1,0,none⟩=some (.string kind):=by rw[N,ei _ _ ⟨w.heap.size+1,0,none⟩ (by first|(simp;done)|(simp;omega)),ei _ _ ⟨w.heap.size+1,0,none⟩ (by first|(simp;done)|(simp;omega))];simp
 have x2:Q.cell? ⟨w.heap.size+2,0,none⟩=some (.string F):=by rw[N,ei _ _ ⟨w.heap.size+2,0,none⟩ (by simp)];simp[jz]
 have aQ:Blk Q (w.heap.size+3) 65 initO:=by rw[N];exact qb _ (by simp) initO _
 clear N
 refine fh (S:=fun X=>X.cell? ⟨w.heap.size,0,none⟩=some (.slice A n c)∧X.cell? ⟨w.heap.size+1,0,none⟩=some (.string kind)∧X.cell? ⟨w.heap.size+2,0,none⟩=some (.string F)) (by kernel_rfl) ⟨x0,x1,x2⟩ (fun ag=> ?_)
 obtain⟨w0,ad⟩: ∃W,W=Q.drew:=⟨_,rfl⟩
 rw[←ad]at ax ag⊢
 have aU:Hid (w0.heap.size=w.heap.size+4):=dM (by rw[ad];exact aD)
 have bg:Hid (Blk w0 (w.heap.size+3) 65 initO):=dM (by rw[ad];exact aQ.drew)
 have L:Hid (∀X,Below w0.heap.size w0 X→X.cell? ⟨w.heap.size,0,none⟩=some (.slice A n c)∧X.cell? ⟨w.heap.size+1,0,none⟩=some (.string kind)∧X.cell? ⟨w.heap.size+2,0,none⟩=some (.string F)):=dM (fun X M=>by
  obtain⟨q0,q1,q2⟩:=ag
  exact⟨(M.cell (nc q0)).trans q0,(M.cell (nc q1)).trans q1,(M.cell (nc q2)).trans q2⟩)
 have bd:=dM (dU w0.heap.size w0)
 clear ad aD x0 x1 x2 aQ
 refine mZ 0 ?_
 try simp only[k_]
 refine mZ 2 ?_
 try simp only[k_]
 refine mZ 4 ?_
 try simp only[k_]
 refine mZ 6 ?_
 try simp only[k_]
 refine mZ 8 ?_
 try simp only[k_]
 refine mZ 10 ?_
 try simp only[k_]
 refine mZ 12 ?_
 try simp only[k_]
 refine mZ 14 ?_
 try simp only[k_]
 refine mZ 16 ?_
 try simp only[k_]
 refine pn 1 (fun K B=> ?_)
 go_simp
 go_at_call 20
 refine(M3 A n c w0).mono ?_
 rintro e w1 ⟨rfl,aP,aC,q⟩
 have bp:=dM q
 have bk:=dM aP
 have aT:=dM aC
 clear aP aC
 have av:=yab bd q
 refine B.out _ _ (L.out _ av.out) (fun bT=> ?_)
 clear B K q
 try simp only[k_]
 refine pn 3 (fun K B=> ?_)
 go_simp
 go_at_call 21
 refine(uz kind w1 (w0.heap.size+1) aT.out).mono ?_
 rintro e w2 ⟨rfl,aN,aG,aB,q⟩
 have bn:=dM q
 have bj:=dM aN
 have ba:=dM aG
 have aS:=dM aB
 clear aN aG aB
 have au:=yab av q
 refine B.out _ _ (L.out _ au.out) (fun bQ=> ?_)
 clear B K q
 try simp only[k_]
 refine pn 5 (fun K B=> ?_)
 go_simp
 go_at_call 22
 refine(sk F w2 (w0.heap.size+5) aS.out).mono ?_
 rintro e w3 ⟨rfl,aM,aF,aA,q⟩
 have bm:=dM q
 have bi:=dM aM
 have a8:=dM aF
 have bD:=dM aA
 clear aM aF aA
 have ar:=yab au q
 refine B.out _ _ (L.out _ ar.out) (fun bP=> ?_)
 clear B K q
 try simp only[k_]
 have bb:Hid (Three w0 w3 A n c kind F):=dM (tE bp.out (by have:=bn.out;rwa [aT.out]at this) (by have:=bm.out;rwa [aS.out]at this) bk.out bj.out ba.out bi.out a8.out)
 clear bk bj ba bi a8
 refine pn 7 (fun K B=> ?_)
 go_simp
 go_at_call 28
 refine(Hi 80 ⟨#[110,111,116,32,116,104,114,101,101,32,112,97,114,116,115,32,111,102,32,98,97,115,101,54,52,117,114,108]⟩ 29 #[] #[.pointer (some ⟨w.heap.size+3,0,none⟩),.pointer (some ⟨w.heap.size+2,0,none⟩)] w3 (w0.heap.size+9) bD.out).mono ?_
 rintro e w4 ⟨rfl,E,hz,q⟩
 have bl:=dM q
 have a7:=dM E
 have bC:=dM hz
 clear E hz
 have aq:=yab ar q
 refine B.out _ _ (L.out _ aq.out) (fun bO=> ?_)
 clear B K q
 try simp only[k_]
 refine pn 9 (fun K B=> ?_)
 go_simp
 go_at_call 28
 refine(Hi 81 ⟨#[97,32,104,101,97,100,101,114,32,111,102,32,97,110,111,116,104,101,114,32,102,111,114,109]⟩ 31 #[.pointer (some ⟨w.heap.size+3,0,none⟩)] #[] w4 (w0.heap.size+12) bC.out).mono ?_
 rintro e w5 ⟨rfl,E,hz,q⟩
 have ay:=dM q
 have a6:=dM E
 have bB:=dM hz
 clear E hz
 have ap:=yab aq q
 refine B.out _ _ (L.out _ ap.out) (fun bN=> ?_)
 clear B K q
 try simp only[k_]
 refine pn 11 (fun K B=> ?_)
 go_simp
 go_at_call 28
 refine(Hi 82 ⟨#[97,110,111,116,104,101,114,32,97,108,103,111,114,105,116,104,109]⟩ 32 #[] #[.pointer (some ⟨w.heap.size+3,0,none⟩)] w5 (w0.heap.size+15) bB.out).mono ?_
 rintro e w6 ⟨rfl,E,hz,q⟩
 have ai:=dM q
 have aZ:=dM E
 have bA:=dM hz
 clear E hz
 have ao:=yab ap q
 refine B.out _ _ (L.out _ ao.out) (fun bM=> ?_)
 clear B K q
 try simp only[k_]
 refine pn 13 (fun K B=> ?_)
 go_simp
 go_at_call 28
 refine(Hi 81 ⟨#[97,110,111,116,104,101,114,32,107,105,110,100]⟩ 34 #[] #[.pointer (some ⟨w.heap.size+3,0,none⟩),.pointer (some ⟨w.heap.size+1,0,none⟩)] w6 (w0.heap.size+18) bA.out).mono ?_
 rintro e w7 ⟨rfl,E,hz,q⟩
 have ab:=dM q
 have aY:=dM E
 have bz:=dM hz
 clear E hz
 have am:=yab ao q
 refine B.out _ _ (L.out _ am.out) (fun bL=> ?_)
 clear B K q
 try simp only[k_]
 refine pn 15 (fun K B=> ?_)
 go_simp
 go_at_call 28
 refine(Hi 83 ⟨#[110,111,32,107,101,121,32,111,102,32,116,104,97,116,32,110,97,109,101]⟩ 35 #[] #[.pointer (some ⟨w.heap.size+3,0,none⟩),.pointer (some ⟨w.heap.size,0,none⟩)] w7 (w0.heap.size+21) bz.out).mono ?_
 rintro e w8 ⟨rfl,E,hz,q⟩
 have aa:=dM q
 have aX:=dM E
 have bx:=dM hz
 clear E hz
 have ak:=yab am q
 refine B.out _ _ (L.out _ ak.out) (fun bK=> ?_)
 clear B K q
 try simp only[k_]
 refine pn 17 (fun K B=> ?_)
 go_simp
 go_at_call 28
 refine(Hi 84 ⟨#[97,110,111,116,104,101,114,32,116,97,103]⟩ 37 #[.pointer (some ⟨w.heap.size+3,0,none⟩)] #[] w8 (w0.heap.size+24) bx.out).mono ?_
 rintro e R ⟨rfl,E,hz,q⟩
 have Z:=dM q
 have aW:=dM E
 have bV:=dM hz
 clear E hz
 have V:=yab ak q
 refine B.out _ _ (L.out _ V.out) (fun bJ=> ?_)
 clear B K q
 try simp only[k_]
 have O:=L.out _ V.out
 have aJ:Blk R (w.heap.size+3) 65 initO:=bg.out.below V.out (by have:=aU.out;omega)
 have aV:Hid (VLay R (w.heap.size+3) w0.heap.size A n c kind F):=dM ⟨by have:=aU.out;omega,⟨w.heap.size,by omega,O.1,(aX.out.below Z.out)⟩,⟨w.heap.size+1,by omega,O.2.1,((aY.out.below aa.out).below Z.out)⟩,⟨w.heap.size+2,by omega,O.2.2,(((((a7.out.below ay.out).below ai.out).below ab.out).below aa.out).below Z.out)⟩,((((a6.out.below ai.out).below ab.out).below aa.out).below Z.out),(((aZ.out.below ab.out).below aa.out).below Z.out),aW.out⟩
 have bc:=dM (show Three w0 R A n c kind F from((((((bb.out.below bl.out).below ay.out).below ai.out).below ab.out).below aa.out).below Z.out))
 have bq:Hid (Below w.heap.size w R):=dM (ax.out.trans (V.out.mono ax.out.size))
 have aw:=dM (fun(W:World) (I:R.grownBy W (some (w.heap.size+3)))=>bq.out.grown I bq.out.size (fun b e=>by injection e with e;omega))
 have HF:=dM (zQ ks A n c kind F (w.heap.size+3) w0.heap.size w0 R rfl bc.out aV.out aJ HN.out bs br HK.out (fun W I=>HA.out.below (aw.out W I)) (fun W I=>HR.out.below (aw.out W I)))
 clear O aJ aV bc a7 a6 aZ aY aX aW bb bp bn bm bl ay ai ab aa bg
 refine pn 18 (fun K B=> ?_)
 go_simp
 refine B.out _ _ (L.out _ (V.out.trans ((nO R _).mono V.out.size))) (fun bS=> ?_)
 clear B K
 try simp only[k_]
 refine pn 19 (fun K B=> ?_)
 go_simp
 go_at_call 19
 refine HF.out.mono ?_
 rintro e G ⟨I,h⟩
 have az:=dM (aw.out _ I)
 have bW:=dM I
 have HH:=dM h
 have aI:G.cell? ⟨w.heap.size,0,none⟩=some (.slice A n c)∧G.cell? ⟨w.heap.size+1,0,none⟩=some (.string kind)∧G.cell? ⟨w.heap.size+2,0,none⟩=some (.string F):=by
  have O:=L.out _ V.out
  exact⟨I.cell O.1 (fun e=>by injection e with e;exact absurd e (by show ¬w.heap.size=_;omega)),I.cell O.2.1 (fun e=>by injection e with e;exact absurd e (by show ¬w.heap.size+1=_;omega)),I.cell O.2.2 (fun e=>by injection e with e;exact absurd e (by show ¬w.heap.size+2=_;omega))⟩
 clear I h
 rcases HH.out with⟨rfl,hv⟩|⟨d,x,m,rfl,hm,aE,aO⟩
 case inr=>
  have U:=dM (And.intro aE aO)
  clear aE aO HH
  refine B.out _ _ aI (fun bw=> ?_)
  clear B K
  try simp only[k_]
  refine mZ 20 ?_
  try simp only[k_]
  refine gC (by kernel_rfl) ?_ _
  go_wp2
  refine dW (v:= .tuple #[.string ⟨#[]⟩,.string ⟨#[]⟩,.iface d x]) (by simp[results,results14,go_sem]) rfl ⟨⟨#[]⟩,⟨#[]⟩,.iface d x,rfl,by rw[U.out.1];rfl,by rw[U.out.1];rfl,by rw[U.out.1];exact U.out.2,az.out⟩
 case inl=>
  have U:=dM hv
  clear hv HH
  refine B.out _ _ aI (fun bw=> ?_)
  clear B K
  try simp only[k_]
  refine mZ 20 ?_
  try simp only[k_]
  refine gC (by kernel_rfl) ?_ _
  obtain⟨ae,a,b,c',hcut,bU,v1,v2,v3,h0,h1,h2,h3,h4,k0,k1,g1,g2,g3,g4,g5,g6,g7⟩:=U.out
  obtain⟨k,af,rfl,rfl,aK⟩:=g7 (by decide)
  have ah:Hid (nu ks kind F=(g_ b,a_ k.1,0)):=dM (by
   rw[Ed ae,hcut]
   show oe ks kind a b c'=_
   unfold oe
   rw[dN (by rw[g4];decide),dN (by rw[g5 (by decide)];decide),dN (by rw[g6 (by decide)];decide),af]
   show(if nA (a_ k.2) (a++46::b)=g_ c' then _ else _)=_
   rw[dP (aK (by decide))])
  obtain⟨d1,d2⟩:=F5 (p:=b) hcut (by simp) (by rw[j_];exact ae.2.2 (by decide))
  obtain⟨Y,c2,rfl,bv,aH⟩:=g1.2.2.1
  have bt:=(HK.out k (ky af)).1
  have aL:=(Hl (ae.1 (by decide))).2.2 k (ky af)
  have bu:=Hk aL.1
  have bE:=dM (fun W=>w_ k.1 W (by omega))
  have y2:G.cell? ⟨w.heap.size+3,2,none⟩=some (.slice Y (g_ b).length c2):=g2.cell 2
  have y9:G.cell? ⟨w.heap.size+3,9,none⟩=some (.string k.1):=g2.cell 9
  have aj:Lies G Y (g_ b):=Lies.of aH
  have bf:Hid (a_ (toS (g_ b))=g_ b):=dM (th d1)
  have bF:=dM d1
  obtain⟨D,hD⟩:=yaa (g_ b)
  rw[←hD]at y2 aj bf ah bF
  obtain⟨m,hm⟩:=yaa D.length
  rw[←hm]at y2
  have HM:=dM hm
  have bh:Hid (∀X,Below G.heap.size G X→Lies X Y D∧X.cell? ⟨w.heap.size+3,2,none⟩=some (.slice Y m c2)∧X.cell? ⟨w.heap.size+3,9,none⟩=some (.string k.1)):=dM (fun X M=>⟨aj.below M,(M.cell (nc y2)).trans y2,(M.cell (nc y9)).trans y9⟩)
  clear hD hm U ae hcut g1 g2 g3 g4 g5 g6 g7 af aK d1 d2 bv aH bt aL bu y2 y9 aj
  go_wp2_with fail
  refine fh (S:=fun X=>Lies X Y D∧X.cell? ⟨w.heap.size+3,2,none⟩=some (.slice Y m c2)∧X.cell? ⟨w.heap.size+3,9,none⟩=some (.string k.1)) (by kernel_rfl) (bh.out _ (dU _ _).drew) (fun ag=> ?_)
  refine mZ 0 ?_
  try simp only[k_]
  refine mZ 1 ?_
  try simp only[k_]
  refine mZ 2 ?_
  try simp only[k_]
  refine mZ 3 ?_ (hy:=by
   intro X M
   have bI:=zK Y D m c2 X HM.out.symm M.1
   first|(go_simp;done)|(go_simp;with_reducible rfl))
  try simp only[k_]
  refine mZ 4 ?_
  try simp only[k_]
  refine mZ 5 ?_
  try simp only[k_]
  refine mZ 6 ?_
  try simp only[k_]
  refine pn 7 (fun K B=> ?_)
  go_simp
  go_at_call 38
  refine(bE.out _).mono ?_
  rintro e bG ⟨rfl,q⟩
  have bo:=dM ((dU G.heap.size G).drew.trans (q.mono (dU G.heap.size G).drew.size))
  refine B.out _ _ (bh.out _ bo.out) (fun bR=> ?_)
  clear B K q ag
  try simp only[k_]
  refine mZ 8 ?_
  try simp only[k_]
  refine mZ 9 ?_
  try simp only[k_]
  refine mZ 10 ?_
  try simp only[k_]
  refine gC (by kernel_rfl) ?_ _
  go_wp2
  refine dW (v:= .tuple #[.string (toS D),.string k.1,.nilIface]) (by simp[results,results14,go_sem]) rfl ⟨toS D,k.1,.nilIface,rfl,by rw[ah.out];exact bf.out,by rw[ah.out],by rw[ah.out];exact .inl ⟨rfl,rfl⟩,az.out.trans (bo.out.mono az.out.size)⟩
theorem MR (R E F payload:ByteArray) (w:World) (hs:E.size≤5000) (hh:F.size≤5000) (hp:payload.size≤6000):
  Calls prog 17 #[.agg #[.string R,.string E],.string F,.string payload] w fun e w'=> ∃t,a_ t=BO (a_ E) (a_ F) (a_ payload)∧e= .returned (.string t)∧Below w.heap.size w w':=by
 have aa:=dM (fun W:World=>LF F W (by omega))
 have Z:=dM (fun W:World=>LF payload W (by omega))
 have z1:=KE F
 have z2:=KE payload
 have Q:=JF F
 have O:=JF payload
 obtain⟨a,ha⟩:=yaa (Gd F)
 obtain⟨b,q⟩:=yaa (Gd payload)
 rw[←ha]at aa z1 Q
 rw[←q]at Z z2 O
 have e1:a.size+(⟨#[46]⟩:ByteArray).size≤9223372036854775807:=by show a.size+1≤_;omega
 have e2:(a++⟨#[46]⟩:ByteArray).size+b.size≤9223372036854775807:=by rw[gL];show a.size+1+b.size≤_;omega
 obtain⟨B,V⟩: ∃B:ByteArray,B=a++⟨#[46]⟩++b:=⟨_,rfl⟩
 have sB:a_ B=yG (a_ F) (a_ payload):=by rw[V,Iw,Iw,Q,O];unfold yG;simp[a_]
 have zB:B.size≤16000:=by rw[V,gL,gL];show a.size+1+b.size≤_;omega
 have I:=dM (fun W:World=>Ml E B W hs (by omega))
 have L:(nA (a_ E) (a_ B)).length=32:=ww _
 have X:Bytes (nA (a_ E) (a_ B)):=BU _
 obtain⟨D,U⟩:=yaa (nA (a_ E) (a_ B))
 rw[←U]at I L X
 have G:=D2 X
 have zT:(oH D).size=32:=by rw[←j_,G,L]
 obtain⟨d,hd⟩:=yaa (oH D)
 rw[←hd]at I G zT
 have Y:=dM (fun W:World=>LF d W (by omega))
 have z3:=KE d
 have t3:=JF d
 obtain⟨c,hc⟩:=yaa (Gd d)
 rw[←hc]at Y z3 t3
 have e3:B.size+(⟨#[46]⟩:ByteArray).size≤9223372036854775807:=by show B.size+1≤_;omega
 have e4:(B++⟨#[46]⟩:ByteArray).size+c.size≤9223372036854775807:=by rw[gL];show B.size+1+c.size≤_;omega
 have HR:Hid (a_ (B++⟨#[46]⟩++c)=BO (a_ E) (a_ F) (a_ payload)):=dM (by
  rw[Iw,Iw,t3,G,U,sB];unfold BO;simp[a_])
 subst V
 have af:=dM (nO w (.cells #[.string R,.string E] 41))
 have N:(w.alloc (.cells #[.string R,.string E] 41)).cell? ⟨w.heap.size,1,none⟩=some (.string E):=by simp
 have ag:=nc N
 clear ha q sB zB U L X hd hc G zT z1 z2 z3 Q O t3
 go_enter func17,ntmps17
 go_wp2_with(first
  |(go_at_call 44;(with_reducible refine(aa.out _).mono ?_);rintro e w1 ⟨rfl,q⟩;have M:=(q.cell (p:=⟨w.heap.size,1,none⟩) ag).trans N;have ae:=yab af q;clear q N aa)
  |(go_at_call 44;(with_reducible refine(Z.out _).mono ?_);rintro e w2 ⟨rfl,q⟩;have y2:=(q.cell (p:=⟨w.heap.size,1,none⟩) (nc M)).trans M;have ad:=yab ae q;clear q M Z)
  |(go_at_call 43;fail))
 refine(I.out _).mono ?_
 rintro e w3 ⟨rfl,q⟩
 have ab:=yab ad q
 clear q I
 go_wp2_with(go_at_call 44;(with_reducible refine(Y.out _).mono ?_);rintro e w4 ⟨rfl,q⟩;have ah:=yab ab q;clear q Y)
 go_ret
 exact⟨_,HR.out,rfl,ah.out⟩
end Go.Proofs.YtceddodfddlncaaGreatDoor
