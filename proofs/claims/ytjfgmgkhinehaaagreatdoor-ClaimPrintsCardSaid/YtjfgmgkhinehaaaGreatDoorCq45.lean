
import Derived.Great.BuildSlice
import Derived.Test.YtjfgmgkhinehaaaGreatDoorCq32
import Derived.Test.YtjfgmgkhinehaaaGreatDoorCq37
import Derived.Test.YtjfgmgkhinehaaaGreatDoorCq43
import Derived.Test.YtjfgmgkhinehaaaGreatDoorCq44
set_option maxRecDepth 100000
set_option maxHeartbeats 16000000
set_option linter.all false
namespace Go.Proofs.YtjfgmgkhinehaaaGreatDoor
open Go Go.RowKit
abbrev mbT (n t:ByteArray):List Value:=[.string n,.int .i64 3,.int .i64 0,.string t,.slice none 0 0,.slice none 0 0]
abbrev mbI (n:ByteArray) (x:Int):List Value:=[.string n,.int .i64 2,.int .i64 x,.string ⟨#[]⟩,.slice none 0 0,.slice none 0 0]
def tJ (t:ByteArray):J:= .mk 3 0 t [] []
def nJ (x:Int):J:= .mk 2 x ⟨#[]⟩ [] []
theorem tJ_rep (t:ByteArray) (W:World) (S:Nat→Prop) (ht:t.size≤9223372036854775807):RepS W S (tJ t) (.agg #[.int .i64 3,.int .i64 0,.string t,.slice none 0 0,.slice none 0 0]):=RepS.plain W S 3 0 t ht
theorem nJ_rep (x:Int) (W:World) (S:Nat→Prop):RepS W S (nJ x) (.agg #[.int .i64 2,.int .i64 x,.string ⟨#[]⟩,.slice none 0 0,.slice none 0 0]):=RepS.plain W S 2 x ⟨#[]⟩ (by decide)
def scTx (ns:List ByteArray):ByteArray:=toS (zis ns)
def zlh (i j d tx:ByteArray) (a b:Int):List (ByteArray×J):=[(nCid,tJ d),(nExp,nJ b),(nIat,nJ a),(nIss,tJ i),(nJti,tJ j),(nScope,tJ tx)]
def tokMs7 (i j d tx s:ByteArray) (a b:Int):List (ByteArray×J):=[(nCid,tJ d),(nExp,nJ b),(nIat,nJ a),(nIss,tJ i),(nJti,tJ j),(nScope,tJ tx),(nSub,tJ s)]
def tokJ (t:TokM):J:= .mk 5 0 ⟨#[]⟩ ([tJ t.cid,nJ t.exp,nJ t.iat,tJ t.iss,tJ t.jti,tJ (scTx t.sc)]++if t.sub.size=0 then[]else[tJ t.sub]) ([nCid,nExp,nIat,nIss,nJti,nScope]++if t.sub.size=0 then[]else[nSub])
theorem puts6 (i j d tx:ByteArray) (a b:Int):zdZ (zlh i j d tx a b)=([nCid,nExp,nIat,nIss,nJti,nScope],[tJ d,nJ b,nJ a,tJ i,tJ j,tJ tx]):=by kernel_rfl
theorem puts7 (i j d tx s:ByteArray) (a b:Int):zdZ (tokMs7 i j d tx s a b)=([nCid,nExp,nIat,nIss,nJti,nScope,nSub],[tJ d,nJ b,nJ a,tJ i,tJ j,tJ tx,tJ s]):=by kernel_rfl
theorem wp_slice_six {o:Oper} {act:Act} {w:World} {K:Act→World→Prop} {Q:Exit→Act→World→Prop} (parts:Array (Nat×Operand)) (ho:o.op= .buildSlice 25 6 parts) (i j d tx:ByteArray) (a b:Int)
  (hv:(parts.map fun(i,x)=>(i,act.eval x)).toList=[(0,.agg (mbT nCid d).toArray),(1,.agg (mbI nExp b).toArray),(2,.agg (mbI nIat a).toArray),(3,.agg (mbT nIss i).toArray),(4,.agg (mbT nJti j).toArray),(5,.agg (mbT nScope tx).toArray)])
  (h:K (act.put o.dst (.slice (some ⟨w.heap.size,0,none⟩) 6 6)) (w.alloc (.cells (mbT nCid d++mbI nExp b++mbI nIat a++mbT nIss i++mbT nJti j++mbT nScope tx).toArray 30))):o.wp Tryz.prog act w K Q:=by
 obtain⟨iM,hM,hM0,hM1,hM2⟩:=info_parts zmc
 refine wp_buildSlice 25 30 6 parts ho (mbT nCid d++mbI nExp b++mbI nIat a++mbT nIss i++mbT nJti j++mbT nScope tx).toArray iM _ Tryz.underlying25 hM hM0 (by rw[hM1];decide) (by rw[hM1];decide) ?_ h
 rw[hM1,hv]
 kernel_rfl
theorem cell_lit6 (w:World) (cs:List Value) (t:TypeId): ∀j u,cs[j]? =some u→(w.alloc (.cells cs.toArray t)).cell? ((⟨w.heap.size,0,none⟩:Addr).add j)=some u:=fun j u h=>by
 rw[Addr.add_lit,World.cell?_alloc_new]
 simpa using h
def zs6 (i j d tx:ByteArray) (a b:Int):List MC:=[⟨nCid,.int .i64 3,.int .i64 0,.string d,.slice none 0 0,.slice none 0 0⟩,⟨nExp,.int .i64 2,.int .i64 b,.string ⟨#[]⟩,.slice none 0 0,.slice none 0 0⟩,⟨nIat,.int .i64 2,.int .i64 a,.string ⟨#[]⟩,.slice none 0 0,.slice none 0 0⟩,⟨nIss,.int .i64 3,.int .i64 0,.string i,.slice none 0 0,.slice none 0 0⟩,⟨nJti,.int .i64 3,.int .i64 0,.string j,.slice none 0 0,.slice none 0 0⟩,⟨nScope,.int .i64 3,.int .i64 0,.string tx,.slice none 0 0,.slice none 0 0⟩]
def zs7 (i j d tx s:ByteArray) (a b:Int):List MC:=zs6 i j d tx a b++[⟨nSub,.int .i64 3,.int .i64 0,.string s,.slice none 0 0,.slice none 0 0⟩]
theorem flat6 (i j d tx:ByteArray) (a b:Int) (W:World) (S:Nat→Prop) (h1:i.size≤9223372036854775807) (h2:j.size≤9223372036854775807) (h3:d.size≤9223372036854775807) (h4:tx.size≤9223372036854775807):FlatM W S (zlh i j d tx a b) (zs6 i j d tx a b):=
 ⟨_,_,rfl,rfl,by show nCid.size≤_;decide,tJ_rep _ _ _ h3,_,_,rfl,rfl,by show nExp.size≤_;decide,nJ_rep _ _ _,_,_,rfl,rfl,by show nIat.size≤_;decide,nJ_rep _ _ _,_,_,rfl,rfl,by show nIss.size≤_;decide,tJ_rep _ _ _ h1,_,_,rfl,rfl,by show nJti.size≤_;decide,tJ_rep _ _ _ h2,_,_,rfl,rfl,by show nScope.size≤_;decide,tJ_rep _ _ _ h4,rfl⟩
theorem flat7 {i j d tx s:ByteArray} {a b:Int} {W:World} {S:Nat→Prop} (h:FlatM W S (zlh i j d tx a b) (zs6 i j d tx a b)) (hs:RepS W S (tJ s) (.agg #[.int .i64 3,.int .i64 0,.string s,.slice none 0 0,.slice none 0 0])):FlatM W S (tokMs7 i j d tx s a b) (zs7 i j d tx s a b):=FlatM.snoc (t:=nSub) (by show nSub.size≤_;decide) hs h
theorem own6 (i j d tx:ByteArray) (a b:Int) (w:World):(w.alloc (.cells (mbT nCid d++mbI nExp b++mbI nIat a++mbT nIss i++mbT nJti j++mbT nScope tx).toArray 30)).ownsRow w.heap.size 30 6 (.slice (some ⟨w.heap.size,0,none⟩) 6 6) 6 (zdz (zs6 i j d tx a b)):=
 ⟨rfl,.inr ⟨w.heap.size,6,_,rfl,Nat.le_refl _,heap_alloc_new w _,Nat.le_refl _,by unfold maxLen;omega,rfl,rfl⟩⟩
theorem ms_ok {ms:List (ByteArray×J)} {ns:List ByteArray} (h:ms.map Prod.fst=ns) (hn:ns.Nodup) (hl:ms.length≤256) (hs: ∀m∈ms,m.2.l=[]∧m.2.k=[]):MsOk ms:=
 ⟨hl,by rw[h];exact hn,fun m hm=>by
  obtain⟨h1,h2⟩:=hs m hm
  cases hv:m.2 with
  |mk k n s l ks=>
   rw[hv]at h1 h2
   have h1:l=[]:=h1
   have h2:ks=[]:=h2
   subst h1;subst h2
   exact .mk (by simp) (by simp) (by simp)⟩
theorem ms6_ok (i j d tx:ByteArray) (a b:Int):MsOk (zlh i j d tx a b):=ms_ok (ns:=[nCid,nExp,nIat,nIss,nJti,nScope]) rfl (by decide+kernel) (by show 6≤256;decide) (fun m hm=>by
 simp[zlh]at hm;rcases hm with rfl|rfl|rfl|rfl|rfl|rfl<;>exact⟨rfl,rfl⟩)
theorem ms7_ok (i j d tx s:ByteArray) (a b:Int):MsOk (tokMs7 i j d tx s a b):=ms_ok (ns:=[nCid,nExp,nIat,nIss,nJti,nScope,nSub]) rfl (by decide+kernel) (by show 7≤256;decide) (fun m hm=>by
 simp[tokMs7]at hm;rcases hm with rfl|rfl|rfl|rfl|rfl|rfl|rfl<;>exact⟨rfl,rfl⟩)
theorem zcm {s:ByteArray} (h:visL (strL s)=true):s.size≤64:=by
 unfold visL at h
 rw[Bool.and_eq_true]at h
 have:=(of_decide_eq_true h.1).2
 rwa [zaX]at this
def PrintC (W:World) (t:TokM) (e:Ending) (w':World):Prop:=
 (zcl t=true∧zoe (zdb (tokJ t)) W e w')∨(zcl t=false∧e= .returned (.tuple #[.string ⟨#[]⟩,.iface 95 (.int .i64 90)])∧Below W.heap.size W w')
theorem zai {W X Y:World} {o:Obj} (h:Below (W.heap.size+1) (W.alloc o) X) (hb:Below X.heap.size X Y):Below (W.heap.size+1) (W.alloc o) Y:=h.trans (hb.mono (by have:=h.size;simp at this;omega))
theorem tokJ_mild {t:TokM} (h:zcl t=true) (ht:(zis t.sc).length≤1000000000):Mild (tokJ t):=by
 unfold zcl textsOk at h
 simp only[Bool.and_eq_true]at h
 obtain⟨⟨⟨⟨⟨h1,h2⟩,h3⟩,h4⟩,h5⟩,h6⟩:=h
 have z1:=zcm h1
 have z2:=zcm h2
 have z3:=zcm h3
 have hm: ∀s:ByteArray,s.size≤1000000000→Mild (tJ s):=fun s h=> .mk 3 0 s [] [] h (by simp) (by simp)
 have hi: ∀n:Int,Mild (nJ n):=fun n=> .mk 2 n ⟨#[]⟩ [] [] (by decide) (by simp) (by simp)
 have h4':t.sub.size≤1000000000:=by
  unfold zjp at h4
  rw[Bool.or_eq_true]at h4
  rcases h4 with h4|h4
  ·have:=of_decide_eq_true h4;omega
  ·have:=(zho h4).2;rw[zaX]at this;omega
 refine .mk 5 0 ⟨#[]⟩ _ _ (by decide) (fun x hx=> ?_) (fun x hx=> ?_)
 ·split at hx<;>simp at hx
  ·rcases hx with rfl|rfl|rfl|rfl|rfl|rfl<;>decide
  ·rcases hx with rfl|rfl|rfl|rfl|rfl|rfl|rfl<;>decide
 ·have hs:(scTx t.sc).size≤1000000000:=by unfold scTx;rw[zap];exact ht
  split at hx<;>simp at hx
  ·rcases hx with rfl|rfl|rfl|rfl|rfl|rfl
   ·exact hm _ (by omega)
   ·exact hi _
   ·exact hi _
   ·exact hm _ (by omega)
   ·exact hm _ (by omega)
   ·exact hm _ hs
  ·rcases hx with rfl|rfl|rfl|rfl|rfl|rfl|rfl
   ·exact hm _ (by omega)
   ·exact hi _
   ·exact hi _
   ·exact hm _ (by omega)
   ·exact hm _ (by omega)
   ·exact hm _ hs
   ·exact hm _ h4'
theorem zlb (t:TokM) (A:Option Addr) (c:Nat) (W:World) (hs:SliceN W (.slice A t.sc.length c) t.sc) (hn:t.sc.length≤1000000) (ht:(zis t.sc).length≤1000000000) (hm:Marks W) (z1:t.iss.size≤1000000000) (z2:t.jti.size≤1000000000) (z3:t.cid.size≤1000000000) (z4:t.sub.size≤1000000000):
  Calls Tryz.prog 23 #[.agg #[.string t.iss,.string t.jti,.string t.cid,.string t.sub,.slice A t.sc.length c,.int .i64 t.iat,.int .i64 t.exp]] W (PrintC W t):=by
 have hCK:=fun X (hX:Below W.heap.size W X)=>zdq t A c X (hs.below hX) (by omega)
 have hMI:=fun h=>tokJ_mild (t:=t) h ht
 have hPRJ:tokJ t= .mk 5 0 ⟨#[]⟩ ([tJ t.cid,nJ t.exp,nJ t.iat,tJ t.iss,tJ t.jti,tJ (scTx t.sc)]++if t.sub.size=0 then[]else[tJ t.sub]) ([nCid,nExp,nIat,nIss,nJti,nScope]++if t.sub.size=0 then[]else[nSub]):=rfl
 have HPS:=Lib.hid (fun X (hX:Below W.heap.size W X)=>printS_any _ t.sc X (hs.below hX) hn ht)
 unfold PrintC
 obtain⟨PJ,hPJ⟩: ∃x,x=tokJ t:=⟨_,rfl⟩
 rw[←hPJ]at hMI hPRJ⊢
 obtain⟨ok,hok⟩: ∃b,b=zcl t:=⟨_,rfl⟩
 have hCK2: ∀X,Below W.heap.size W X→Calls Tryz.prog 24 #[.agg #[.string t.iss,.string t.jti,.string t.cid,.string t.sub,.slice A t.sc.length c,.int .i64 t.iat,.int .i64 t.exp]] X (CkC X ok):=fun X hX=>by rw[hok];exact hCK X hX
 rw[←hok]at hMI⊢
 obtain⟨tx,htx⟩: ∃x,x=scTx t.sc:=⟨_,rfl⟩
 have htz:tx.size≤1000000000:=by rw[htx];unfold scTx;rw[zap];exact ht
 rw[←htx]at hPRJ
 rw[show toS (zis t.sc)=tx from htx.symm]at HPS
 obtain⟨i,j,d,s,ns,a,b⟩:=t
 dsimp only at hCK2 hPRJ HPS z1 z2 z3 z4⊢
 obtain⟨n,hnn⟩: ∃n,n=ns.length:=⟨_,rfl⟩
 rw[←hnn]at hCK2 HPS⊢
 have hB1:=zaf W (.cells #[.string i,.string j,.string d,.string s,.slice A n c,.int .i64 a,.int .i64 b] 42)
 have hbk:Blk (W.alloc (.cells #[.string i,.string j,.string d,.string s,.slice A n c,.int .i64 a,.int .i64 b] 42)) W.heap.size 42 [.string i,.string j,.string d,.string s,.slice A n c,.int .i64 a,.int .i64 b]:=zcX W rfl [.string i,.string j,.string d,.string s,.slice A n c,.int .i64 a,.int .i64 b] _
 have hz1:(W.alloc (.cells #[.string i,.string j,.string d,.string s,.slice A n c,.int .i64 a,.int .i64 b] 42)).heap.size=W.heap.size+1:=by simp
 have HCK:=Lib.hid (hCK2 _ hB1)
 have HB1:=Lib.hid hB1
 have HC:Hid (∀X,Below (W.heap.size+1) (W.alloc (.cells #[.string i,.string j,.string d,.string s,.slice A n c,.int .i64 a,.int .i64 b] 42)) X→X.cell? ⟨W.heap.size,0,none⟩=some (.string i)∧X.cell? ⟨W.heap.size,1,none⟩=some (.string j)∧X.cell? ⟨W.heap.size,2,none⟩=some (.string d)∧X.cell? ⟨W.heap.size,3,none⟩=some (.string s)∧X.cell? ⟨W.heap.size,4,none⟩=some (.slice A n c)∧X.cell? ⟨W.heap.size,5,none⟩=some (.int .i64 a)∧X.cell? ⟨W.heap.size,6,none⟩=some (.int .i64 b)):=Lib.hid (fun X hX=>by
  have:=hbk.below hX (Nat.lt_succ_self _)
  exact⟨this.cell 0,this.cell 1,this.cell 2,this.cell 3,this.cell 4,this.cell 5,this.cell 6⟩)
 have HMI:=Lib.hid hMI
 have HPRJ:=Lib.hid hPRJ
 have HM:=Lib.hid hm
 have HTT:=Lib.hid zey
 have Hdx:=Lib.hid (fun X=>zey d X (by omega))
 have Hbx:=Lib.hid (fun X=>int_any b X)
 have Hax:=Lib.hid (fun X=>int_any a X)
 have Hix:=Lib.hid (fun X=>zey i X (by omega))
 have Hjx:=Lib.hid (fun X=>zey j X (by omega))
 have Htx:=Lib.hid (fun X=>zey tx X (by omega))
 have Hsx:=Lib.hid (fun X=>zey s X (by omega))
 have HFL:=Lib.hid (fun X S=>flat6 i j d tx a b X S (by omega) (by omega) (by omega) (by omega))
 have HTS:=Lib.hid (fun X S=>tJ_rep s X S (by omega))
 have HZ1:=Lib.hid hz1
 clear hCK hCK2 hMI hPRJ hB1 hbk hz1 hok htx htz hPJ hs hn ht hm hnn z1 z2 z3
 go_enter Tryz.func23,Tryz.ntmps23
 go_wp2_with fail
 refine HCK.out.mono ?_
 rintro e w1 ⟨rfl,hb⟩
 have HB2:Hid (Below (W.heap.size+1) (W.alloc (.cells #[.string i,.string j,.string d,.string s,.slice A n c,.int .i64 a,.int .i64 b] 42)) w1):=Lib.hid (by have:=hb;rwa [HZ1.out]at this)
 clear hb HCK
 cases ok with
 |false=>
  rw[show errV (if false=true then 0 else 90)= .iface 95 (.int .i64 90)from rfl]
  go_wp2
  go_ret2
  exact⟨rfl,HB1.out.trans (HB2.out.mono (Nat.le_succ _))⟩
 |true=>
 rw[show errV (if true=true then 0 else 90)= .nilIface from rfl]
 have hV:=HC.out _ (HB2.out.drew)
 go_wp2_with fail
 refine wp_region_held_drew (S:=fun X=>X.cell? ⟨W.heap.size,0,none⟩=some (.string i)∧X.cell? ⟨W.heap.size,1,none⟩=some (.string j)∧X.cell? ⟨W.heap.size,2,none⟩=some (.string d)∧X.cell? ⟨W.heap.size,3,none⟩=some (.string s)∧X.cell? ⟨W.heap.size,4,none⟩=some (.slice A n c)∧X.cell? ⟨W.heap.size,5,none⟩=some (.int .i64 a)∧X.cell? ⟨W.heap.size,6,none⟩=some (.int .i64 b)) (by kernel_rfl) hV (fun hHeld=> ?_)
 have hH:=hHeld
 have HB2d:=Lib.hid HB2.out.drew
 clear hHeld hV
 refine rgT 0 ?_
 try simp only[rgS]
 refine rgT 4 ?_
 try simp only[rgS]
 refine rgT 8 ?_
 try simp only[rgS]
 refine rgT 12 ?_
 try simp only[rgS]
 refine rgT 16 ?_
 try simp only[rgS]
 refine rgT 20 ?_
 try simp only[rgS]
 refine rgT 1 ?_
 try simp only[rgS]
 refine rgT 5 ?_
 try simp only[rgS]
 refine rgT 9 ?_
 try simp only[rgS]
 refine rgT 13 ?_
 try simp only[rgS]
 refine rgT 17 ?_
 try simp only[rgS]
 refine rgT 21 ?_
 try simp only[rgS]
 refine rgO 2 (fun K hK=> ?_)
 go_simp
 go_at_call 18
 (with_reducible refine(Hdx.out _).mono ?_)
 rintro e w9 ⟨rfl,hb⟩
 have HB3:=Lib.hid (zai HB2d.out hb)
 refine hK.out _ _ (HC.out _ HB3.out) (fun hH9=> ?_)
 clear hK K hb hH
 have hH:=hH9
 clear hH9
 try simp only[rgS]
 refine rgT 3 ?_
 try simp only[rgS]
 refine rgO 6 (fun K hK=> ?_)
 go_simp
 go_at_call 19
 (with_reducible refine(Hbx.out _).mono ?_)
 rintro e w9 ⟨rfl,hb⟩
 have HB4:=Lib.hid (zai HB3.out hb)
 refine hK.out _ _ (HC.out _ HB4.out) (fun hH9=> ?_)
 clear hK K hb hH
 have hH:=hH9
 clear hH9
 try simp only[rgS]
 refine rgT 7 ?_
 try simp only[rgS]
 refine rgO 10 (fun K hK=> ?_)
 go_simp
 go_at_call 19
 (with_reducible refine(Hax.out _).mono ?_)
 rintro e w9 ⟨rfl,hb⟩
 have HB5:=Lib.hid (zai HB4.out hb)
 refine hK.out _ _ (HC.out _ HB5.out) (fun hH9=> ?_)
 clear hK K hb hH
 have hH:=hH9
 clear hH9
 try simp only[rgS]
 refine rgT 11 ?_
 try simp only[rgS]
 refine rgO 14 (fun K hK=> ?_)
 go_simp
 go_at_call 18
 (with_reducible refine(Hix.out _).mono ?_)
 rintro e w9 ⟨rfl,hb⟩
 have HB6:=Lib.hid (zai HB5.out hb)
 refine hK.out _ _ (HC.out _ HB6.out) (fun hH9=> ?_)
 clear hK K hb hH
 have hH:=hH9
 clear hH9
 try simp only[rgS]
 refine rgT 15 ?_
 try simp only[rgS]
 refine rgO 18 (fun K hK=> ?_)
 go_simp
 go_at_call 18
 (with_reducible refine(Hjx.out _).mono ?_)
 rintro e w9 ⟨rfl,hb⟩
 have HB7:=Lib.hid (zai HB6.out hb)
 refine hK.out _ _ (HC.out _ HB7.out) (fun hH9=> ?_)
 clear hK K hb hH
 have hH:=hH9
 clear hH9
 try simp only[rgS]
 refine rgT 19 ?_
 try simp only[rgS]
 refine rgO 22 (fun K hK=> ?_)
 go_simp
 go_at_call 55
 refine(HPS.out _ (HB1.out.trans (HB7.out.mono (Nat.le_succ _)))).mono ?_
 rintro e w9 ⟨rfl,hb⟩
 have HB8:=Lib.hid (zai HB7.out hb)
 refine hK.out _ _ (HC.out _ HB8.out) (fun hH9=> ?_)
 clear hK K hb hH
 have hH:=hH9
 clear hH9
 try simp only[rgS]
 refine rgO 23 (fun K hK=> ?_)
 go_simp
 go_at_call 18
 (with_reducible refine(Htx.out _).mono ?_)
 rintro e w9 ⟨rfl,hb⟩
 have HB9:=Lib.hid (zai HB8.out hb)
 refine hK.out _ _ (HC.out _ HB9.out) (fun hH9=> ?_)
 clear hK K hb hH
 have hH:=hH9
 clear hH9
 try simp only[rgS]
 refine rgT 24 ?_
 try simp only[rgS]
 refine rgO 25 (fun K hK=> ?_)
 rw[if_pos (by kernel_rfl)]
 refine wp_slice_six _ rfl i j d tx a b (by kernel_rfl) ?_
 refine hK.out _ _ (HC.out _ (zai HB9.out (zaf _ _))) (fun hH9=> ?_)
 have hown:=own6 i j d tx a b w9
 have HB20:=Lib.hid (zai HB9.out (zaf w9 (.cells (mbT nCid d++mbI nExp b++mbI nIat a++mbT nIss i++mbT nJti j++mbT nScope tx).toArray 30)))
 have HLE:=Lib.hid (HB9.out.size)
 clear hK K hH
 obtain⟨gb,hgb⟩: ∃g,g=w9.heap.size:=⟨_,rfl⟩
 obtain⟨wA,hwA⟩: ∃X,X=w9.alloc (.cells (mbT nCid d++mbI nExp b++mbI nIat a++mbT nIss i++mbT nJti j++mbT nScope tx).toArray 30):=⟨_,rfl⟩
 rw[←hwA,←hgb]at hown
 rw[←hwA]at HB20 hH9⊢
 rw[←hgb]
 have HGB:Hid (W.heap.size+1≤gb):=Lib.hid (by rw[hgb];have:=HLE.out;simp at this;omega)
 have HOW:=Lib.hid hown
 clear hwA hgb hown
 try simp only[rgS]
 refine rgT 26 ?_
 try simp only[rgS]
 refine wpAnyH_done (by kernel_rfl) ?_ _
 obtain⟨q0,q1,q2,q3,q4,q5,q6⟩:=hH9
 have HBA:=Lib.hid (HB1.out.trans (HB20.out.mono (Nat.le_succ _)))
 by_cases hz:s.size=0
 ·obtain rfl:=zfZ hz
  have HJ:Hid (PJ= .mk 5 0 ⟨#[]⟩ [tJ d,nJ b,nJ a,tJ i,tJ j,tJ tx] [nCid,nExp,nIat,nIss,nJti,nScope]):=Lib.hid (by rw[HPRJ.out];rfl)
  have HOB:=Lib.hid (obj_all (zlh i j d tx a b) (ms6_ok i j d tx a b) wA _ (zs6 i j d tx a b) (fun _=>False) (fun _ h=>h.elim) (HFL.out _ _) (own_row HOW.out rfl))
  rw[puts6]at HOB
  clear hz
  go_wp2_with fail
  refine HOB.out.mono ?_
  rintro e wB ⟨v',rfl,hr,hb⟩
  have hrj:=RepS.toJ _ _ hr
  have HBB:=Lib.hid (HBA.out.trans (hb.mono HBA.out.size))
  rw[←HJ.out]at hrj
  have HPR:=Lib.hid (zlx PJ v' wB hrj (HMI.out (by first|rfl|trivial)) (HM.out.below HBB.out))
  obtain⟨y0,y1,y2,yA,yp,yc,yK,yq,yd,rfl⟩:=hrj.form
  clear hr hb hrj HOB
  go_wp2_with fail
  refine HPR.out.mono ?_
  rintro e wC ⟨rfl,hby,hb⟩
  have HPT:=Lib.hid hby
  have HBC:=Lib.hid (HBB.out.trans (hb.mono HBB.out.size))
  obtain⟨ev,hev⟩: ∃v,v=(if(zdb PJ).2=0 then Value.nilIface else .iface 95 (.int .i64 (zdb PJ).2)):=⟨_,rfl⟩
  rw[←hev]
  have HEV:=Lib.hid hev
  obtain⟨tt,htt⟩: ∃x,x=toS (zdb PJ).1:=⟨_,rfl⟩
  rw[←htt]
  have HTX:=Lib.hid htt
  clear hby hb hev htt HPR
  go_wp2
  go_ret2
  exact⟨by rw[HEV.out,HTX.out];rfl,HPT.out,HBC.out⟩
 ·have hne:=zco hz
  have hne3:=zbx hz
  have HJ:Hid (PJ= .mk 5 0 ⟨#[]⟩ [tJ d,nJ b,nJ a,tJ i,tJ j,tJ tx,tJ s] [nCid,nExp,nIat,nIss,nJti,nScope,nSub]):=Lib.hid (by rw[HPRJ.out,if_neg hz,if_neg hz];rfl)
  obtain⟨iM,hM,hM0,hM1,hM2⟩:=info_parts zmc
  clear hz
  go_wp2_with(first
   |(go_at_call 18;(with_reducible refine(Hsx.out _).mono ?_);rintro e wS ⟨rfl,hb⟩;have HBS:=Lib.hid (HBA.out.trans (hb.mono HBA.out.size));have HOS:=Lib.hid (zgn HOW.out hb);have hgs:=(HOS.out.lt gb rfl).2;clear hb)
   |(at_builtin;refine wpList_append_own _ rfl _ _ 25 rfl gb 30 iM (.agg #[.string ⟨#[]⟩,.int .i64 0,.int .i64 0,.string ⟨#[]⟩,.slice none 0 0,.slice none 0 0]) 6 96 Tryz.underlying25 hM hM0 hM1 hM2 rfl (by decide) _ 6 _ rfl (HOS.out.alloc _) ⟨wS.heap.size,0,none⟩ 1 1 [.string ⟨#[115,117,98]⟩,.int .i64 3,.int .i64 0,.string s,.slice none 0 0,.slice none 0 0] rfl rfl (cell_lit6 _ _ _) (by simp[Value.oneCell']) (by unfold maxLen;omega) (by omega) (by simp;omega) ?_;intro v' w4 hown4 hgrow4 hnil4;have HO4:=Lib.hid hown4;have HG4:=Lib.hid hgrow4;clear hown4 hgrow4 hnil4)
   |(go_at_call 12;fail))
  have hrow:RowM w4 v' (zs7 i j d tx s a b):=own_row (zs:=zs7 i j d tx s a b) HO4.out rfl
  have HBW:=Lib.hid ((HBS.out.alloc HBS.out.size (.cells #[.string ⟨#[115,117,98]⟩,.int .i64 3,.int .i64 0,.string s,.slice none 0 0,.slice none 0 0] 30)).grown HG4.out (by have:=HBS.out.size;simp;omega) (fun q hq=>by have:=(HOS.out.lt q hq).1;have:=HGB.out;omega))
  have HOB:=Lib.hid (obj_all (tokMs7 i j d tx s a b) (ms7_ok i j d tx s a b) w4 v' (zs7 i j d tx s a b) (fun _=>False) (fun _ h=>h.elim) (flat7 (HFL.out _ _) (HTS.out _ _)) hrow)
  rw[puts7]at HOB
  clear hrow
  refine HOB.out.mono ?_
  rintro e wB ⟨v2,rfl,hr,hb⟩
  have hrj:=RepS.toJ _ _ hr
  have HBB:=Lib.hid (HBW.out.trans (hb.mono HBW.out.size))
  rw[←HJ.out]at hrj
  have HPR:=Lib.hid (zlx PJ v2 wB hrj (HMI.out (by first|rfl|trivial)) (HM.out.below HBB.out))
  obtain⟨y0,y1,y2,yA,yp,yc,yK,yq,yd,rfl⟩:=hrj.form
  clear hr hb hrj HOB
  go_wp2_with fail
  refine HPR.out.mono ?_
  rintro e wC ⟨rfl,hby,hb⟩
  have HPT:=Lib.hid hby
  have HBC:=Lib.hid (HBB.out.trans (hb.mono HBB.out.size))
  obtain⟨ev,hev⟩: ∃v,v=(if(zdb PJ).2=0 then Value.nilIface else .iface 95 (.int .i64 (zdb PJ).2)):=⟨_,rfl⟩
  rw[←hev]
  have HEV:=Lib.hid hev
  obtain⟨tt,htt⟩: ∃x,x=toS (zdb PJ).1:=⟨_,rfl⟩
  rw[←htt]
  have HTX:=Lib.hid htt
  clear hby hb hev htt HPR
  go_wp2
  go_ret2
  exact⟨by rw[HEV.out,HTX.out];rfl,HPT.out,HBC.out⟩
theorem asciiU: ∀(l:List Int),(∀c∈l,0≤c∧c<128)→badU l=l.length
 |[],_=>rfl
 |c::r,h=>by
  have hc:=h c (by simp)
  have hp:putL c=[c]:=zfY hc.1 hc.2
  have hn:nxL (c::r)=(c,1):=by
   have:=nx_put (n:=c) (by rw[hp];simp) r
   rw[hp]at this
   exact this
  rw[zhX (by rw[hn];show c≠ -1;omega),hn]
  show 1+badU r=_
  rw[asciiU r (fun x hx=>h x (List.mem_cons_of_mem _ hx)),List.length_cons];omega
def Asc (s:ByteArray):Prop:= ∀c∈strL s,32≤c∧c<128
theorem Asc.utf {s:ByteArray} (h:Asc s):utfS s=true:=by
 unfold utfS
 exact decide_eq_true (asciiU _ fun c hc=>by have:=h c hc;omega)
theorem Asc.quote {s:ByteArray} (h:Asc s):(zam (strL s)).length≤2*s.size+2:=by
 rw[quoteL_is]
 have key: ∀xs:List Int,(∀c∈xs,32≤c∧c<128)→(qB xs).length≤2*xs.length:=fun xs=>by
  induction xs with
  |nil=>intro _;exact Nat.le_refl _
  |cons c r ih=>
   intro h
   have hc:=h c (by simp)
   have hr:=ih (fun x hx=>h x (List.mem_cons_of_mem _ hx))
   rw[qB_cons,List.length_append,List.length_cons]
   have:(qOne c).length≤2:=by
    unfold qOne
    rw[if_neg (by omega)]
    split<;>simp
   omega
 have:=key _ h
 simp only[List.length_cons,List.length_append,List.length_nil]
 rw[zaX]at this
 omega
theorem ziK {s:ByteArray} (h:visL (strL s)=true):Asc s:=by
 unfold visL at h
 rw[Bool.and_eq_true,List.all_eq_true]at h
 exact fun c hc=>by have:=of_decide_eq_true (h.2 c hc);omega
theorem zhp {s:ByteArray} (h:zbh (strL s)=true):Asc s:=by
 unfold zbh at h
 rw[Bool.and_eq_true,List.all_eq_true]at h
 exact fun c hc=>by
  have:=h.2 c hc
  unfold okB at this
  have:=of_decide_eq_true this
  omega
theorem textG_asc: ∀(l:List ByteArray) (f:Bool),(∀x∈l,zbh (strL x)=true)→ ∀c∈zbt f l,32≤c∧c<128
 |[],_,_,c,h=>by simp[zbt]at h
 |x::r,f,hl,c,h=>by
  rw[zbt]at h
  rcases List.mem_append.1 h with h|h
  ·rcases List.mem_append.1 h with h|h
   ·split at h
    ·cases h
    ·rw[List.mem_singleton.1 h];omega
   ·exact zhp (hl x List.mem_cons_self) c h
  ·exact textG_asc r false (fun y hy=>hl y (List.mem_cons_of_mem _ hy)) c h
theorem scTx_asc {l:List ByteArray} (h:zdc l=true):Asc (scTx l):=by
 unfold Asc scTx zis
 rw[zbo (zdd l true)]
 exact textG_asc l true (zkr h).2.1
theorem scTx_len {l:List ByteArray} (h:zdc l=true):(scTx l).size≤600:=by
 unfold scTx
 rw[zap]
 obtain⟨-,h2,h3⟩:=zkr h
 have:=zjm l true 32 (fun x hx=>name_size (h2 x hx))
 show(zbt true l).length≤_
 have h4:l.length*(32+1)≤16*33:=Nat.mul_le_mul_right _ h3
 omega
theorem zjl {t:TokM} (h:zcl t=true):visL (strL t.iss)=true∧visL (strL t.jti)=true∧visL (strL t.cid)=true∧(t.sub.size=0∨zbh (strL t.sub)=true)∧zdc t.sc=true∧0≤t.iat∧t.iat≤t.exp∧t.exp≤2199023255552:=by
 unfold zcl textsOk at h
 simp only[Bool.and_eq_true]at h
 obtain⟨⟨⟨⟨⟨h1,h2⟩,h3⟩,h4⟩,h5⟩,h6⟩:=h
 refine⟨h1,h2,h3,?_,h5,of_decide_eq_true h6⟩
 unfold zjp at h4
 rw[Bool.or_eq_true]at h4
 rcases h4 with h4|h4
 ·exact .inl (of_decide_eq_true h4)
 ·exact .inr h4
theorem zjo {s:ByteArray} (h:zbh (strL s)=true):s.size≤32:=by
 have:=(zho h).2
 rwa [zaX]at this
theorem textL_t (s:ByteArray):zbw (tJ s)=zam (strL s):=by rw[tJ,zbw];rfl
theorem textL_n (n:Int):zbw (nJ n)=prL n:=by rw[nJ,zbw];rfl
theorem rt_t {s:ByteArray} (h:utfS s=true):Rt (tJ s):= .mk 3 0 s [] [] (by unfold zcc;simp) (fun h=>by cases h) (.inr (.inr (by unfold zdu;rw[if_neg (by decide),if_neg (by decide),if_neg (by decide),if_pos rfl];exact h))) (by simp)
theorem rt_n {n:Int} (h0:0≤n) (h1:n≤2199023255552):Rt (nJ n):= .mk 2 n ⟨#[]⟩ [] [] (by unfold zcc;simp) (fun h=>by cases h) (.inr (.inr (by unfold zdu;rw[if_neg (by decide),if_neg (by decide),if_pos rfl,decide_eq_true (by omega),decide_eq_true (by omega)];rfl))) (by simp)
theorem utf_names:utfS nCid=true∧utfS nExp=true∧utfS nIat=true∧utfS nIss=true∧utfS nJti=true∧utfS nScope=true∧utfS nSub=true:=by decide+kernel
theorem less_names:Op.bytesLess nCid.toList nExp.toList=true∧Op.bytesLess nExp.toList nIat.toList=true∧Op.bytesLess nIat.toList nIss.toList=true∧Op.bytesLess nIss.toList nJti.toList=true∧Op.bytesLess nJti.toList nScope.toList=true∧Op.bytesLess nScope.toList nSub.toList=true:=by decide+kernel
theorem zmq (t:TokM):zbw (tokJ t)=[123]++((zam (strL nCid)++[58]++zam (strL t.cid))++([44]++zam (strL nExp)++[58]++prL t.exp)++([44]++zam (strL nIat)++[58]++prL t.iat)++([44]++zam (strL nIss)++[58]++zam (strL t.iss))++([44]++zam (strL nJti)++[58]++zam (strL t.jti))++([44]++zam (strL nScope)++[58]++zam (strL (scTx t.sc)))++(if t.sub.size=0 then[]else[44]++zam (strL nSub)++[58]++zam (strL t.sub)))++[125]:=by
 rw[tokJ,zbw,if_neg (by decide),if_neg (by decide),if_neg (by decide),if_neg (by decide),if_neg (by decide),if_pos rfl]
 by_cases hz:t.sub.size=0
 ·rw[if_pos hz,if_pos hz,if_pos hz]
  simp[zci,textL_t,textL_n]
 ·rw[if_neg hz,if_neg hz,if_neg hz]
  simp[zci,textL_t,textL_n]
theorem tok_right {t:TokM} (h:zcl t=true):(rgt (tokJ t) 1 256).1=true∧(zbw (tokJ t)).length≤4096:=by
 obtain⟨h1,h2,h3,h4,h5,h6,h7,h8⟩:=zjl h
 have v1:=ziK h1
 have v2:=ziK h2
 have v3:=ziK h3
 have v5:=scTx_asc h5
 have z1:=zcm h1
 have z2:=zcm h2
 have z3:=zcm h3
 have z5:=scTx_len h5
 obtain⟨u1,u2,u3,u4,u5,u6,u7⟩:=utf_names
 obtain⟨l1,l2,l3,l4,l5,l6⟩:=less_names
 have p1:=(zdi t.exp (by omega) (by omega)).2
 have p2:=(zdi t.iat (by omega) (by omega)).2
 constructor
 ·rw[zfq]
  unfold tokJ
  by_cases hz:t.sub.size=0
  ·rw[if_pos hz,if_pos hz]
   refine⟨.mk _ _ _ _ _ (by show zcc 5 0 ⟨#[]⟩ 6 6=true;decide+kernel) (fun _=>⟨rfl,?_⟩) (.inr (.inl rfl)) (fun x hx=> ?_),?_,?_⟩
   ·show rnL none [nCid,nExp,nIat,nIss,nJti,nScope]=true
    rw[zbi,zbi,zbi,zbi,zbi,zbi,znX,u1,u2,u3,u4,u5,u6]
    simp[l1,l2,l3,l4,l5]
   ·simp at hx
    rcases hx with rfl|rfl|rfl|rfl|rfl|rfl
    ·exact rt_t v3.utf
    ·exact rt_n (by omega) h8
    ·exact rt_n h6 (by omega)
    ·exact rt_t v1.utf
    ·exact rt_t v2.utf
    ·exact rt_t v5.utf
   ·simp[szJ,szLs,tJ,nJ]
   ·simp[dpJ,dpLs,tJ,nJ]
  ·rw[if_neg hz,if_neg hz]
   have hn:=h4.resolve_left hz
   refine⟨.mk _ _ _ _ _ (by show zcc 5 0 ⟨#[]⟩ 7 7=true;decide+kernel) (fun _=>⟨rfl,?_⟩) (.inr (.inl rfl)) (fun x hx=> ?_),?_,?_⟩
   ·show rnL none [nCid,nExp,nIat,nIss,nJti,nScope,nSub]=true
    rw[zbi,zbi,zbi,zbi,zbi,zbi,zbi,znX,u1,u2,u3,u4,u5,u6,u7]
    simp[l1,l2,l3,l4,l5,l6]
   ·simp at hx
    rcases hx with rfl|rfl|rfl|rfl|rfl|rfl|rfl
    ·exact rt_t v3.utf
    ·exact rt_n (by omega) h8
    ·exact rt_n h6 (by omega)
    ·exact rt_t v1.utf
    ·exact rt_t v2.utf
    ·exact rt_t v5.utf
    ·exact rt_t (zhp hn).utf
   ·simp[szJ,szLs,tJ,nJ]
   ·simp[dpJ,dpLs,tJ,nJ]
 ·rw[zmq]
  have q1:=v1.quote
  have q2:=v2.quote
  have q3:=v3.quote
  have q5:=v5.quote
  have n1:(zam (strL nCid)).length≤20:=by decide+kernel
  have n2:(zam (strL nExp)).length≤20:=by decide+kernel
  have n3:(zam (strL nIat)).length≤20:=by decide+kernel
  have n4:(zam (strL nIss)).length≤20:=by decide+kernel
  have n5:(zam (strL nJti)).length≤20:=by decide+kernel
  have n6:(zam (strL nScope)).length≤20:=by decide+kernel
  have n7:(zam (strL nSub)).length≤20:=by decide+kernel
  by_cases hz:t.sub.size=0
  ·rw[if_pos hz]
   simp only[List.length_append,List.length_cons,List.length_nil]
   omega
  ·rw[if_neg hz]
   have q7:=(zhp (h4.resolve_left hz)).quote
   have z7:=zjo (h4.resolve_left hz)
   simp only[List.length_append,List.length_cons,List.length_nil]
   omega
theorem print_tokJ {t:TokM} (h:zcl t=true):zdb (tokJ t)=(zbw (tokJ t),0):=by
 obtain⟨h1,h2⟩:=tok_right h
 unfold zdb
 rw[if_neg (by rw[h1];decide),if_neg (by omega)]
def GrC (W:World) (G:Bool) (e:Ending) (w':World):Prop:= ∃g:Bool,e= .returned (.bool g)∧(g=false→G=false)∧Below W.heap.size W w'
theorem znf (t:TokM) (A:Option Addr) (c:Nat) (W:World) (hr:RawN W (.slice A t.sc.length c) t.sc):
  Calls Tryz.prog 22 #[.agg #[.string t.iss,.string t.jti,.string t.cid,.string t.sub,.slice A t.sc.length c,.int .i64 t.iat,.int .i64 t.exp]] W (GrC W (zeg t.sc)):=by
 obtain⟨i,j,d,s,ns,a,b⟩:=t
 dsimp only at hr⊢
 have hB1:=zaf W (.cells #[.string i,.string j,.string d,.string s,.slice A ns.length c,.int .i64 a,.int .i64 b] 43)
 have HG:=Lib.hid (zlJ _ ns _ (hr.below hB1))
 have HB1:=Lib.hid hB1
 obtain⟨n,hnn⟩: ∃n,n=ns.length:=⟨_,rfl⟩
 rw[←hnn]at HG HB1⊢
 obtain⟨g,hg⟩: ∃g,g=zeg ns:=⟨_,rfl⟩
 rw[←hg]at HG⊢
 clear hr hB1 hnn hg
 by_cases c1:(2000:Int)<wrap64 ((i.size:Int)+(j.size:Int))
 case pos=>
  go_enter Tryz.func22,Tryz.ntmps22
  go_wp2_with fail
  go_ret
  exact⟨true,rfl,(fun h=>by cases h),HB1.out⟩
 case neg=>
 by_cases c2:(2000:Int)<wrap64 ((d.size:Int)+(s.size:Int))
 case pos=>
  go_enter Tryz.func22,Tryz.ntmps22
  go_wp2_with fail
  go_ret
  exact⟨true,rfl,(fun h=>by cases h),HB1.out⟩
 case neg=>
 go_enter Tryz.func22,Tryz.ntmps22
 go_wp2_with fail
 refine HG.out.mono ?_
 rintro e w2 ⟨rfl,rfl⟩
 go_wp2
 go_ret
 exact⟨g,rfl,id,HB1.out⟩
theorem zla (t:TokM) (A:Option Addr) (c:Nat) (W:World) (hs:SliceN W (.slice A t.sc.length c) t.sc) (hn:t.sc.length≤1000000) (h:zcl t=false):
  Calls Tryz.prog 23 #[.agg #[.string t.iss,.string t.jti,.string t.cid,.string t.sub,.slice A t.sc.length c,.int .i64 t.iat,.int .i64 t.exp]] W (PrintC W t):=by
 have hCK:=fun X (hX:Below W.heap.size W X)=>zdq t A c X (hs.below hX) (by omega)
 rw[h]at hCK
 suffices hh:Calls Tryz.prog 23 #[.agg #[.string t.iss,.string t.jti,.string t.cid,.string t.sub,.slice A t.sc.length c,.int .i64 t.iat,.int .i64 t.exp]] W (fun e w'=>e= .returned (.tuple #[.string ⟨#[]⟩,.iface 95 (.int .i64 90)])∧Below W.heap.size W w')from hh.mono (fun e w' hq=> .inr ⟨h,hq⟩)
 obtain⟨i,j,d,s,ns,a,b⟩:=t
 dsimp only at hCK⊢
 have hB1:=zaf W (.cells #[.string i,.string j,.string d,.string s,.slice A ns.length c,.int .i64 a,.int .i64 b] 42)
 have HCK:=Lib.hid (hCK _ hB1)
 have HB1:=Lib.hid hB1
 obtain⟨n,hnn⟩: ∃n,n=ns.length:=⟨_,rfl⟩
 rw[←hnn]at HCK HB1⊢
 clear hCK hB1 hs hn h hnn
 go_enter Tryz.func23,Tryz.ntmps23
 go_wp2_with fail
 refine HCK.out.mono ?_
 rintro e w1 ⟨rfl,hb⟩
 have HB2:=Lib.hid (HB1.out.trans (hb.mono HB1.out.size))
 clear hb HCK
 rw[show errV (if false=true then 0 else 90)= .iface 95 (.int .i64 90)from rfl]
 go_wp2
 go_ret2
 exact⟨rfl,HB2.out⟩
theorem zlc (t:TokM) (A:Option Addr) (c:Nat) (W:World) (hs:SliceN W (.slice A t.sc.length c) t.sc) (hn:t.sc.length≤1000000) (ht:(zis t.sc).length≤1000000000) (hm:Marks W):
  Calls Tryz.prog 23 #[.agg #[.string t.iss,.string t.jti,.string t.cid,.string t.sub,.slice A t.sc.length c,.int .i64 t.iat,.int .i64 t.exp]] W (PrintC W t):=by
 cases h:zcl t with
 |false=>exact zla t A c W hs hn h
 |true=>
  obtain⟨h1,h2,h3,h4, -⟩:=zjl h
  have z1:=zcm h1
  have z2:=zcm h2
  have z3:=zcm h3
  have z4:t.sub.size≤32:=by
   rcases h4 with h4|h4
   ·omega
   ·exact zjo h4
  exact zlb t A c W hs hn ht hm (by omega) (by omega) (by omega) (by omega)
theorem strL_prC (n:Int):strL (toS (prL n))=prL n:=zbo (zkK n)
theorem strL_q (s:ByteArray):strL (toS (zam (strL s)))=zam (strL s):=zbo (zkX s)
theorem pk0:strL ⟨#[123,34,99,108,105,101,110,116,95,105,100,34,58]⟩=[123,34,99,108,105,101,110,116,95,105,100,34,58]:=by decide+kernel
theorem pk1:strL ⟨#[44,34,101,120,112,34,58]⟩=[44,34,101,120,112,34,58]:=by decide+kernel
theorem pk2:strL ⟨#[44,34,105,97,116,34,58]⟩=[44,34,105,97,116,34,58]:=by decide+kernel
theorem pk3:strL ⟨#[44,34,105,115,115,34,58]⟩=[44,34,105,115,115,34,58]:=by decide+kernel
theorem pk4:strL ⟨#[44,34,106,116,105,34,58]⟩=[44,34,106,116,105,34,58]:=by decide+kernel
theorem pk5:strL ⟨#[44,34,115,99,111,112,101,34,58]⟩=[44,34,115,99,111,112,101,34,58]:=by decide+kernel
theorem pk6:strL ⟨#[44,34,115,117,98,34,58]⟩=[44,34,115,117,98,34,58]:=by decide+kernel
theorem pk7:strL ⟨#[125]⟩=[125]:=by decide+kernel
theorem qk0:zam (strL nCid)=[34,99,108,105,101,110,116,95,105,100,34]:=by decide+kernel
theorem qk1:zam (strL nExp)=[34,101,120,112,34]:=by decide+kernel
theorem qk2:zam (strL nIat)=[34,105,97,116,34]:=by decide+kernel
theorem qk3:zam (strL nIss)=[34,105,115,115,34]:=by decide+kernel
theorem qk4:zam (strL nJti)=[34,106,116,105,34]:=by decide+kernel
theorem qk5:zam (strL nScope)=[34,115,99,111,112,101,34]:=by decide+kernel
theorem qk6:zam (strL nSub)=[34,115,117,98,34]:=by decide+kernel
theorem tok_bytes (t:TokM):Bytes (zbw (tokJ t)):=textL_by _
theorem tok_join6 {t:TokM} {qd pb pa qi qj qt:ByteArray} (hz:t.sub.size=0) (hd:qd=toS (zam (strL t.cid))) (hb:pb=toS (prL t.exp)) (ha:pa=toS (prL t.iat)) (hi:qi=toS (zam (strL t.iss))) (hj:qj=toS (zam (strL t.jti))) (ht:qt=toS (zam (strL (scTx t.sc)))):(((((((((((⟨#[123,34,99,108,105,101,110,116,95,105,100,34,58]⟩++qd)++⟨#[44,34,101,120,112,34,58]⟩)++pb)++⟨#[44,34,105,97,116,34,58]⟩)++pa)++⟨#[44,34,105,115,115,34,58]⟩)++qi)++⟨#[44,34,106,116,105,34,58]⟩)++qj)++⟨#[44,34,115,99,111,112,101,34,58]⟩)++qt)++⟨#[125]⟩=toS (zbw (tokJ t)):=by
 apply zcJ
 rw[zbo (tok_bytes t),zmq,if_pos hz]
 subst hd;subst hb;subst ha;subst hi;subst hj;subst ht
 simp[zgl,pk0,pk1,pk2,pk3,pk4,pk5,pk6,pk7,qk0,qk1,qk2,qk3,qk4,qk5,qk6,strL_q,strL_prC]
theorem tok_join7 {t:TokM} {qd pb pa qi qj qt qs:ByteArray} (hz:t.sub.size≠0) (hd:qd=toS (zam (strL t.cid))) (hb:pb=toS (prL t.exp)) (ha:pa=toS (prL t.iat)) (hi:qi=toS (zam (strL t.iss))) (hj:qj=toS (zam (strL t.jti))) (ht:qt=toS (zam (strL (scTx t.sc)))) (hs:qs=toS (zam (strL t.sub))):(((((((((((((⟨#[123,34,99,108,105,101,110,116,95,105,100,34,58]⟩++qd)++⟨#[44,34,101,120,112,34,58]⟩)++pb)++⟨#[44,34,105,97,116,34,58]⟩)++pa)++⟨#[44,34,105,115,115,34,58]⟩)++qi)++⟨#[44,34,106,116,105,34,58]⟩)++qj)++⟨#[44,34,115,99,111,112,101,34,58]⟩)++qt)++⟨#[44,34,115,117,98,34,58]⟩)++qs)++⟨#[125]⟩=toS (zbw (tokJ t)):=by
 apply zcJ
 rw[zbo (tok_bytes t),zmq,if_neg hz]
 subst hd;subst hb;subst ha;subst hi;subst hj;subst ht;subst hs
 simp[zgl,pk0,pk1,pk2,pk3,pk4,pk5,pk6,pk7,qk0,qk1,qk2,qk3,qk4,qk5,qk6,strL_q,strL_prC]
theorem znc (t:TokM) (A:Option Addr) (c:Nat) (W:World) (hs:SliceN W (.slice A t.sc.length c) t.sc) (hn:t.sc.length≤1000000) (ht:(zis t.sc).length≤1000000000) (h:zcl t=true):
  Calls Tryz.prog 27 #[.agg #[.string t.iss,.string t.jti,.string t.cid,.string t.sub,.slice A t.sc.length c,.int .i64 t.iat,.int .i64 t.exp]] W fun e w'=>e= .returned (.string (toS (zbw (tokJ t))))∧Below W.heap.size W w':=by
 have hpa:=zjl h
 obtain⟨h1,h2,h3,h4,h5,h6,h7,h8⟩:=hpa
 have z1:=zcm h1
 have z2:=zcm h2
 have z3:=zcm h3
 have z4:t.sub.size≤32:=by
  rcases h4 with h4|h4
  ·omega
  ·exact zjo h4
 have z5:=scTx_len h5
 obtain⟨qd,hqd⟩: ∃x,x=toS (zam (strL t.cid)):=⟨_,rfl⟩
 obtain⟨pb,hpb⟩: ∃x,x=toS (prL t.exp):=⟨_,rfl⟩
 obtain⟨pa,hpa⟩: ∃x,x=toS (prL t.iat):=⟨_,rfl⟩
 obtain⟨qi,hqi⟩: ∃x,x=toS (zam (strL t.iss)):=⟨_,rfl⟩
 obtain⟨qj,hqj⟩: ∃x,x=toS (zam (strL t.jti)):=⟨_,rfl⟩
 obtain⟨tx,htx⟩: ∃x,x=scTx t.sc:=⟨_,rfl⟩
 obtain⟨qt,hqt⟩: ∃x,x=toS (zam (strL tx)):=⟨_,rfl⟩
 obtain⟨qs,hqs⟩: ∃x,x=toS (zam (strL t.sub)):=⟨_,rfl⟩
 have hqt2:qt=toS (zam (strL (scTx t.sc))):=by rw[←htx];exact hqt
 have HD:=Lib.hid (fun X=>zds t.cid X (by omega))
 have HI:=Lib.hid (fun X=>zds t.iss X (by omega))
 have HJ:=Lib.hid (fun X=>zds t.jti X (by omega))
 have HS:=Lib.hid (fun X=>zds t.sub X (by omega))
 have HT:=Lib.hid (fun X=>zds tx X (by rw[htx];omega))
 have HB:=Lib.hid (fun X=>zio t.exp X (by omega) (by omega))
 have HA:=Lib.hid (fun X=>zio t.iat X (by omega) (by omega))
 have HP:=Lib.hid (fun X (hX:Below W.heap.size W X)=>zlZ _ t.sc X (hs.below hX) hn ht)
 have y1:qd.size≤200:=by rw[hqd,zap];have:=(ziK h3).quote;omega
 have y2:qi.size≤200:=by rw[hqi,zap];have:=(ziK h1).quote;omega
 have y3:qj.size≤200:=by rw[hqj,zap];have:=(ziK h2).quote;omega
 have y4:qt.size≤2000:=by rw[hqt2,zap];have:=(scTx_asc h5).quote;omega
 have y5:pb.size≤200:=by rw[hpb,zap];have:=(zdi t.exp (by omega) (by omega)).2;omega
 have y6:pa.size≤200:=by rw[hpa,zap];have:=(zdi t.iat (by omega) (by omega)).2;omega
 have y7:qs.size≤200:=by
  rcases h4 with h4|h4
  ·rw[hqs,zap,zfZ h4];decide
  ·rw[hqs,zap];have:=(zhp h4).quote;omega
 rw[show toS (zbt true t.sc)=tx from htx.symm]at HP
 rw[←hqd]at HD
 rw[←hqi]at HI
 rw[←hqj]at HJ
 rw[←hqs]at HS
 rw[←hqt]at HT
 rw[←hpb]at HB
 rw[←hpa]at HA
 obtain⟨TX,hTX⟩: ∃x,x=toS (zbw (tokJ t)):=⟨_,rfl⟩
 have HJ6:=Lib.hid (fun hz:t.sub.size=0=>(tok_join6 hz hqd hpb hpa hqi hqj hqt2).trans hTX.symm)
 have HJ7:=Lib.hid (fun hz:t.sub.size≠0=>(tok_join7 hz hqd hpb hpa hqi hqj hqt2 hqs).trans hTX.symm)
 rw[←hTX]
 clear hqd hpb hpa hqi hqj htx hqt hqs hqt2 hTX h1 h2 h3 h4 h5 h6 h7 h8 z1 z2 z3 z4 z5 hs hn ht h
 obtain⟨i,j,d,s,ns,a,b⟩:=t
 dsimp only at HD HI HJ HS HB HA HP HJ6 HJ7⊢
 obtain⟨n,hnn⟩: ∃n,n=ns.length:=⟨_,rfl⟩
 rw[←hnn]at HP⊢
 clear hnn
 have hB1:=zaf W (.cells #[.string i,.string j,.string d,.string s,.slice A n c,.int .i64 a,.int .i64 b] 43)
 have hbk:Blk (W.alloc (.cells #[.string i,.string j,.string d,.string s,.slice A n c,.int .i64 a,.int .i64 b] 43)) W.heap.size 43 [.string i,.string j,.string d,.string s,.slice A n c,.int .i64 a,.int .i64 b]:=zcX W rfl [.string i,.string j,.string d,.string s,.slice A n c,.int .i64 a,.int .i64 b] _
 have HB1:=Lib.hid hB1
 have HC:Hid (∀X,Below (W.heap.size+1) (W.alloc (.cells #[.string i,.string j,.string d,.string s,.slice A n c,.int .i64 a,.int .i64 b] 43)) X→X.cell? ⟨W.heap.size,0,none⟩=some (.string i)∧X.cell? ⟨W.heap.size,1,none⟩=some (.string j)∧X.cell? ⟨W.heap.size,2,none⟩=some (.string d)∧X.cell? ⟨W.heap.size,3,none⟩=some (.string s)∧X.cell? ⟨W.heap.size,4,none⟩=some (.slice A n c)∧X.cell? ⟨W.heap.size,5,none⟩=some (.int .i64 a)∧X.cell? ⟨W.heap.size,6,none⟩=some (.int .i64 b)):=Lib.hid (fun X hX=>by
  have:=hbk.below hX (Nat.lt_succ_self _)
  exact⟨this.cell 0,this.cell 1,this.cell 2,this.cell 3,this.cell 4,this.cell 5,this.cell 6⟩)
 have HB2:=Lib.hid (Below.refl (W.heap.size+1) (W.alloc (.cells #[.string i,.string j,.string d,.string s,.slice A n c,.int .i64 a,.int .i64 b] 43)))
 clear hB1 hbk
 go_enter Tryz.func27,Tryz.ntmps27
 have hV:=HC.out _ (HB2.out.drew)
 go_wp2_with fail
 refine wp_region_held_drew (S:=fun X=>X.cell? ⟨W.heap.size,0,none⟩=some (.string i)∧X.cell? ⟨W.heap.size,1,none⟩=some (.string j)∧X.cell? ⟨W.heap.size,2,none⟩=some (.string d)∧X.cell? ⟨W.heap.size,3,none⟩=some (.string s)∧X.cell? ⟨W.heap.size,4,none⟩=some (.slice A n c)∧X.cell? ⟨W.heap.size,5,none⟩=some (.int .i64 a)∧X.cell? ⟨W.heap.size,6,none⟩=some (.int .i64 b)) (by kernel_rfl) hV (fun hHeld=> ?_)
 have hH:=hHeld
 have HB2d:=Lib.hid HB2.out.drew
 clear hHeld hV
 refine rgT 0 ?_
 try simp only[rgS]
 refine rgT 5 ?_
 try simp only[rgS]
 refine rgT 10 ?_
 try simp only[rgS]
 refine rgT 15 ?_
 try simp only[rgS]
 refine rgT 20 ?_
 try simp only[rgS]
 refine rgT 25 ?_
 try simp only[rgS]
 refine rgT 1 ?_
 try simp only[rgS]
 refine rgT 6 ?_
 try simp only[rgS]
 refine rgT 11 ?_
 try simp only[rgS]
 refine rgT 16 ?_
 try simp only[rgS]
 refine rgT 21 ?_
 try simp only[rgS]
 refine rgT 26 ?_
 try simp only[rgS]
 refine rgO 2 (fun K hK=> ?_)
 go_simp
 go_at_call 62
 (with_reducible refine(HD.out _).mono ?_)
 rintro e w9 ⟨rfl,hb⟩
 have HB3:=Lib.hid (zai HB2d.out hb)
 refine hK.out _ _ (HC.out _ HB3.out) (fun hH9=> ?_)
 clear hK K hb hH
 have hH:=hH9
 clear hH9
 try simp only[rgS]
 refine rgT 3 ?_ (hy:=by
  intro X hX
  go_simp
  exact if_neg (by omega))
 try simp only[rgS]
 refine rgT 4 ?_ (hy:=by
  intro X hX
  go_simp
  exact if_neg (by omega))
 try simp only[rgS]
 refine rgO 7 (fun K hK=> ?_)
 go_simp
 go_at_call 63
 (with_reducible refine(HB.out _).mono ?_)
 rintro e w9 ⟨rfl,hb⟩
 have HB4:=Lib.hid (zai HB3.out hb)
 refine hK.out _ _ (HC.out _ HB4.out) (fun hH9=> ?_)
 clear hK K hb hH
 have hH:=hH9
 clear hH9
 try simp only[rgS]
 refine rgT 8 ?_ (hy:=by
  intro X hX
  go_simp
  exact if_neg (by omega))
 try simp only[rgS]
 refine rgT 9 ?_ (hy:=by
  intro X hX
  go_simp
  exact if_neg (by omega))
 try simp only[rgS]
 refine rgO 12 (fun K hK=> ?_)
 go_simp
 go_at_call 63
 (with_reducible refine(HA.out _).mono ?_)
 rintro e w9 ⟨rfl,hb⟩
 have HB5:=Lib.hid (zai HB4.out hb)
 refine hK.out _ _ (HC.out _ HB5.out) (fun hH9=> ?_)
 clear hK K hb hH
 have hH:=hH9
 clear hH9
 try simp only[rgS]
 refine rgT 13 ?_ (hy:=by
  intro X hX
  go_simp
  exact if_neg (by omega))
 try simp only[rgS]
 refine rgT 14 ?_ (hy:=by
  intro X hX
  go_simp
  exact if_neg (by omega))
 try simp only[rgS]
 refine rgO 17 (fun K hK=> ?_)
 go_simp
 go_at_call 62
 (with_reducible refine(HI.out _).mono ?_)
 rintro e w9 ⟨rfl,hb⟩
 have HB6:=Lib.hid (zai HB5.out hb)
 refine hK.out _ _ (HC.out _ HB6.out) (fun hH9=> ?_)
 clear hK K hb hH
 have hH:=hH9
 clear hH9
 try simp only[rgS]
 refine rgT 18 ?_ (hy:=by
  intro X hX
  go_simp
  exact if_neg (by omega))
 try simp only[rgS]
 refine rgT 19 ?_ (hy:=by
  intro X hX
  go_simp
  exact if_neg (by omega))
 try simp only[rgS]
 refine rgO 22 (fun K hK=> ?_)
 go_simp
 go_at_call 62
 (with_reducible refine(HJ.out _).mono ?_)
 rintro e w9 ⟨rfl,hb⟩
 have HB7:=Lib.hid (zai HB6.out hb)
 refine hK.out _ _ (HC.out _ HB7.out) (fun hH9=> ?_)
 clear hK K hb hH
 have hH:=hH9
 clear hH9
 try simp only[rgS]
 refine rgT 23 ?_ (hy:=by
  intro X hX
  go_simp
  exact if_neg (by omega))
 try simp only[rgS]
 refine rgT 24 ?_ (hy:=by
  intro X hX
  go_simp
  exact if_neg (by omega))
 try simp only[rgS]
 refine rgO 27 (fun K hK=> ?_)
 go_simp
 go_at_call 64
 (with_reducible refine(HP.out _ (HB1.out.trans (HB7.out.mono (Nat.le_succ _)))).mono ?_)
 rintro e w9 ⟨rfl,hb⟩
 have HB8:=Lib.hid (zai HB7.out hb)
 refine hK.out _ _ (HC.out _ HB8.out) (fun hH9=> ?_)
 clear hK K hb hH
 have hH:=hH9
 clear hH9
 try simp only[rgS]
 refine rgO 28 (fun K hK=> ?_)
 go_simp
 go_at_call 62
 (with_reducible refine(HT.out _).mono ?_)
 rintro e w9 ⟨rfl,hb⟩
 have HB9:=Lib.hid (zai HB8.out hb)
 refine hK.out _ _ (HC.out _ HB9.out) (fun hH9=> ?_)
 clear hK K hb hH
 have hH:=hH9
 clear hH9
 try simp only[rgS]
 refine rgT 29 ?_ (hy:=by
  intro X hX
  go_simp
  exact if_neg (by omega))
 try simp only[rgS]
 refine rgT 30 ?_
 try simp only[rgS]
 refine wpAnyH_done (by kernel_rfl) ?_ _
 obtain⟨q0,q1,q2,q3,q4,q5,q6⟩:=hH
 have HBA:=Lib.hid (HB1.out.trans (HB9.out.mono (Nat.le_succ _)))
 have x1:13+qd.size+7+pb.size+7+pa.size+7+qi.size+7+qj.size+9+qt.size+1≤9223372036854775807:=by omega
 have x2:13+qd.size+7+pb.size+7+pa.size+7+qi.size+7+qj.size+9+qt.size+7≤9223372036854775807:=by omega
 have x3:13+qd.size+7+pb.size+7+pa.size+7+qi.size+7+qj.size+9+qt.size+7+qs.size≤9223372036854775807:=by omega
 have x4:13+qd.size+7+pb.size+7+pa.size+7+qi.size+7+qj.size+9+qt.size+7+qs.size+1≤9223372036854775807:=by omega
 by_cases hz:s.size=0
 ·have HJ:=Lib.hid (HJ6.out hz)
  obtain rfl:=zfZ hz
  clear hz HJ6 HJ7
  go_wp2
  go_ret
  exact⟨congrArg (fun x=>Ending.returned (.string x)) HJ.out,HBA.out⟩
 ·have hne:=zco hz
  have hne3:=zbx hz
  have HJ:=Lib.hid (HJ7.out hz)
  clear hz HJ6 HJ7
  go_wp2_with fail
  refine(HS.out _).mono ?_
  rintro e wS ⟨rfl,hb⟩
  have HBS:=Lib.hid (HBA.out.trans (hb.mono HBA.out.size))
  clear hb
  go_wp2
  go_ret
  exact⟨congrArg (fun x=>Ending.returned (.string x)) HJ.out,HBS.out⟩
theorem sizeTokP:(Tryz.prog.info? 43).map (·.size)=some 7:=by kernel_rfl
theorem zeroTokP:(Tryz.prog.info? 43).map (·.zero)=some (some (.agg zeros7.toArray)):=by kernel_rfl
theorem zli {ns:List ByteArray} (h:zeg ns=false):(zis ns).length≤1000000000:=by
 have h1:=zjm ns true 1000 (zdk h).2
 have h2:ns.length*(1000+1)≤100*1001:=Nat.mul_le_mul (zdk h).1 (Nat.le_refl _)
 unfold zis;omega
theorem print_facts {t:TokM} {W w':World} {e:Ending} (h:zcl t=true) (ht:zoe (zdb (tokJ t)) W e w'):
  e= .returned (.tuple #[.string (toS (zbw (tokJ t))),.nilIface])∧Below W.heap.size W w':=by
 rw[print_tokJ h]at ht
 obtain⟨h1, -,h3⟩:=ht
 exact⟨by rw[h1];rfl,h3⟩
theorem errno_c (w:World):CErr 90 (.iface 95 (.int .i64 90)) w:= .inr (.inl ⟨by decide,rfl⟩)
theorem zlY (t:TokM) (A:Option Addr) (c:Nat) (W:World) (hA:Ask9 W) (hr:RawN W (.slice A t.sc.length c) t.sc):
  Calls Tryz.prog 4 #[.agg #[.string t.iss,.string t.jti,.string t.cid,.string t.sub,.slice A t.sc.length c,.int .i64 t.iat,.int .i64 t.exp]] W fun e w'=>e= .returned (.bool true)∧Below W.heap.size W w':=by
 have HG:=Lib.hid (fun(X:World) (hX:Below W.heap.size W X)=>znf t A c X (hr.below hX))
 have HP:=Lib.hid (fun(h:zeg t.sc=false) (X:World) (hX:Below W.heap.size W X)=>zlc t A c X ((hr.below hX).slice h) (by have:=(zdk h).1;omega) (zli h) (hA.below hX).ask.marks)
 have HK:=Lib.hid (fun(h:zeg t.sc=false) (X:World) (hX:Below W.heap.size W X)=>zdq t A c X ((hr.below hX).slice h) (by have:=(zdk h).1;omega))
 have HRK:=Lib.hid (fun(h:zeg t.sc=false) (X:World) (hX:Below W.heap.size W X)=>zfV t A c X ((hr.below hX).slice h) (by have:=(zdk h).1;omega))
 have HRP:=Lib.hid (fun(h:zeg t.sc=false) (hok:zcl t=true) (X:World) (hX:Below W.heap.size W X)=>znc t A c X ((hr.below hX).slice h) (by have:=(zdk h).1;omega) (zli h) hok)
 have HPF:=Lib.hid (fun(W w':World) (e:Ending) (h:zcl t=true) (ht:zoe (zdb (tokJ t)) W e w')=>print_facts h ht)
 have hB1:=zaf W (.cells #[.string t.iss,.string t.jti,.string t.cid,.string t.sub,.slice A t.sc.length c,.int .i64 t.iat,.int .i64 t.exp] 42)
 have HAL:=Lib.hid (zmi _ (hA.below hB1))
 have HA:=Lib.hid hA
 clear hA hr hB1
 obtain⟨TX,hTX⟩: ∃x,x=toS (zbw (tokJ t)):=⟨_,rfl⟩
 rw[←hTX]at HRP HPF
 clear hTX
 obtain⟨T,hT⟩: ∃T,T=t:=⟨_,rfl⟩
 obtain⟨ti,tj,td,ts,tsc,ta,tb⟩:=t
 dsimp only at HG HP HK HRK HRP HAL⊢
 rw[←hT]at HP HK HRK HRP HPF
 obtain⟨tn,htn⟩: ∃n,n=tsc.length:=⟨_,rfl⟩
 rw[←htn]at HG HP HK HRK HRP HAL⊢
 have hB1:=zaf W (.cells #[.string ti,.string tj,.string td,.string ts,.slice A tn c,.int .i64 ta,.int .i64 tb] 42)
 have hbk:Blk (W.alloc (.cells #[.string ti,.string tj,.string td,.string ts,.slice A tn c,.int .i64 ta,.int .i64 tb] 42)) W.heap.size 42 [.string ti,.string tj,.string td,.string ts,.slice A tn c,.int .i64 ta,.int .i64 tb]:=zcX W rfl [.string ti,.string tj,.string td,.string ts,.slice A tn c,.int .i64 ta,.int .i64 tb] _
 have hz1:(W.alloc (.cells #[.string ti,.string tj,.string td,.string ts,.slice A tn c,.int .i64 ta,.int .i64 tb] 42)).heap.size=W.heap.size+1:=by simp
 have HB1:=Lib.hid hB1
 have HBK:=Lib.hid hbk
 have HZ1:=Lib.hid hz1
 clear hB1 hbk hz1 htn hT
 go_enter Tryz.func4,Tryz.ntmps4
 go_wp2_with fail
 refine HAL.out.mono ?_
 rintro e w1 ⟨rfl,hb⟩
 have HU1:=Lib.hid (show Below (W.heap.size+1) (W.alloc (.cells #[.string ti,.string tj,.string td,.string ts,.slice A tn c,.int .i64 ta,.int .i64 tb] 42)) w1 by have:=hb;rwa [HZ1.out]at this)
 have HW1:=Lib.hid (HB1.out.trans (HU1.out.mono (Nat.le_succ _)))
 have hq:=HBK.out.below HU1.out (Nat.lt_succ_self _)
 have p0:=hq.cell 0
 have p1:=hq.cell 1
 have p2:=hq.cell 2
 have p3:=hq.cell 3
 have p4:=hq.cell 4
 have p5:=hq.cell 5
 have p6:=hq.cell 6
 clear hb hq HAL
 go_wp2_with(first
  |(refine zaK rfl (some 3) rfl _ rfl _ zeroTokP ?_;intro g3 wa3 hg3 hb3 hgr3;have HA3:=Lib.hid hgr3;have HG3:=Lib.hid hg3;clear hgr3 hg3;try go_frame)
  |(refine zaQ rfl none rfl _ (.tmp 3) (.tmp 9) rfl g3 0 [.string ti,.string tj,.string td,.string ts,.slice A tn c,.int .i64 ta,.int .i64 tb] rfl rfl _ _ hb3 (by simp[zeros7]) sizeTokP (by intro v hv;simp at hv;rcases hv with rfl|rfl|rfl|rfl|rfl|rfl|rfl<;>rfl) ?_;intro ws3 hc3 hgs3;rw[zaW _ _ (by simp[zeros7])]at hc3;have HM3:=Lib.hid (zao (Below.refl _ _) HA3.out HG3.out hgs3);have HC3:=Lib.hid hc3;have hq:=HBK.out.below (zai HU1.out HM3.out) (Nat.lt_succ_self _);have p0:=hq.cell 0;have p1:=hq.cell 1;have p2:=hq.cell 2;have p3:=hq.cell 3;have p4:=hq.cell 4;have p5:=hq.cell 5;have p6:=hq.cell 6;have q0:=HC3.out.cell 0;have q1:=HC3.out.cell 1;have q2:=HC3.out.cell 2;have q3:=HC3.out.cell 3;have q4:=HC3.out.cell 4;have q5:=HC3.out.cell 5;have q6:=HC3.out.cell 6;clear hq;clear hgs3 hb3 hc3;try go_frame)
  |(go_at_call 22;fail))
 have HU2:=Lib.hid (zai HU1.out HM3.out)
 have HW2:=Lib.hid (HW1.out.trans (HM3.out.mono HW1.out.size))
 have HV2:=Lib.hid (Below.refl ws3.heap.size ws3)
 refine(HG.out _ HW2.out).mono ?_
 rintro e w3 ⟨g,rfl,hg,hb⟩
 have HW3:=Lib.hid (HW2.out.trans (hb.mono HW2.out.size))
 have HU3:=Lib.hid (zai HU2.out hb)
 have HV3:=Lib.hid (HV2.out.trans (hb.mono HV2.out.size))
 have hq:=HBK.out.below HU3.out (Nat.lt_succ_self _)
 have hr:=HC3.out.below HV3.out HC3.out.lt
 clear p0 p1 p2 p3 p4 p5 p6 q0 q1 q2 q3 q4 q5 q6
 have p0:=hq.cell 0
 have p1:=hq.cell 1
 have p2:=hq.cell 2
 have p3:=hq.cell 3
 have p4:=hq.cell 4
 have p5:=hq.cell 5
 have p6:=hq.cell 6
 have q0:=hr.cell 0
 have q1:=hr.cell 1
 have q2:=hr.cell 2
 have q3:=hr.cell 3
 have q4:=hr.cell 4
 have q5:=hr.cell 5
 have q6:=hr.cell 6
 clear hq hr
 clear hb
 cases g with
 |true=>
  clear hg
  go_wp2
  go_ret
  exact⟨rfl,HW3.out⟩
 |false=>
 have HGF:=Lib.hid (hg rfl)
 clear hg
 go_wp2_with fail
 refine(HP.out HGF.out _ HW3.out).mono ?_
 rintro e w4 (⟨hok,ht⟩|⟨hok,rfl,hb⟩)
 case inr=>
  have HW4:=Lib.hid (HW3.out.trans (hb.mono HW3.out.size))
  have HU4:=Lib.hid (zai HU3.out hb)
  have HV4:=Lib.hid (HV3.out.trans (hb.mono HV3.out.size))
  have hq:=HBK.out.below HU4.out (Nat.lt_succ_self _)
  have hr:=HC3.out.below HV4.out HC3.out.lt
  clear p0 p1 p2 p3 p4 p5 p6 q0 q1 q2 q3 q4 q5 q6
  have p0:=hq.cell 0
  have p1:=hq.cell 1
  have p2:=hq.cell 2
  have p3:=hq.cell 3
  have p4:=hq.cell 4
  have p5:=hq.cell 5
  have p6:=hq.cell 6
  have q0:=hr.cell 0
  have q1:=hr.cell 1
  have q2:=hr.cell 2
  have q3:=hr.cell 3
  have q4:=hr.cell 4
  have q5:=hr.cell 5
  have q6:=hr.cell 6
  clear hq hr
  clear hb
  have HKK:=Lib.hid (HK.out HGF.out w4 HW4.out)
  have HRR:=Lib.hid (fun X hX=>HRK.out HGF.out X hX)
  rw[hok]at HKK HRR
  clear hok
  go_wp2_with fail
  refine HKK.out.mono ?_
  rintro e w5 ⟨rfl,hb⟩
  rw[show errV (if false=true then 0 else 90)= .iface 95 (.int .i64 90)from rfl]
  have HW5:=Lib.hid (HW4.out.trans (hb.mono HW4.out.size))
  have HU5:=Lib.hid (zai HU4.out hb)
  have HV5:=Lib.hid (HV4.out.trans (hb.mono HV4.out.size))
  have hq:=HBK.out.below HU5.out (Nat.lt_succ_self _)
  have hr:=HC3.out.below HV5.out HC3.out.lt
  clear p0 p1 p2 p3 p4 p5 p6 q0 q1 q2 q3 q4 q5 q6
  have p0:=hq.cell 0
  have p1:=hq.cell 1
  have p2:=hq.cell 2
  have p3:=hq.cell 3
  have p4:=hq.cell 4
  have p5:=hq.cell 5
  have p6:=hq.cell 6
  have q0:=hr.cell 0
  have q1:=hr.cell 1
  have q2:=hr.cell 2
  have q3:=hr.cell 3
  have q4:=hr.cell 4
  have q5:=hr.cell 5
  have q6:=hr.cell 6
  clear hq hr
  clear hb
  go_wp2_with fail
  refine(HRR.out _ HW5.out).mono ?_
  rintro e w6 ⟨rfl,hb⟩
  have HW6:=Lib.hid (HW5.out.trans (hb.mono HW5.out.size))
  have HU6:=Lib.hid (zai HU5.out hb)
  have HV6:=Lib.hid (HV5.out.trans (hb.mono HV5.out.size))
  have hq:=HBK.out.below HU6.out (Nat.lt_succ_self _)
  have hr:=HC3.out.below HV6.out HC3.out.lt
  clear p0 p1 p2 p3 p4 p5 p6 q0 q1 q2 q3 q4 q5 q6
  have p0:=hq.cell 0
  have p1:=hq.cell 1
  have p2:=hq.cell 2
  have p3:=hq.cell 3
  have p4:=hq.cell 4
  have p5:=hq.cell 5
  have p6:=hq.cell 6
  have q0:=hr.cell 0
  have q1:=hr.cell 1
  have q2:=hr.cell 2
  have q3:=hr.cell 3
  have q4:=hr.cell 4
  have q5:=hr.cell 5
  have q6:=hr.cell 6
  clear hq hr
  clear hb
  go_wp2_with fail
  refine(znw _ _ _ (errno_c _) (HA.out.below HW6.out).ask.tab).mono ?_
  rintro e w7 ⟨rfl,hb⟩
  have HW7:=Lib.hid (HW6.out.trans (hb.mono HW6.out.size))
  have HU7:=Lib.hid (zai HU6.out hb)
  have HV7:=Lib.hid (HV6.out.trans (hb.mono HV6.out.size))
  have hq:=HBK.out.below HU7.out (Nat.lt_succ_self _)
  have hr:=HC3.out.below HV7.out HC3.out.lt
  clear p0 p1 p2 p3 p4 p5 p6 q0 q1 q2 q3 q4 q5 q6
  have p0:=hq.cell 0
  have p1:=hq.cell 1
  have p2:=hq.cell 2
  have p3:=hq.cell 3
  have p4:=hq.cell 4
  have p5:=hq.cell 5
  have p6:=hq.cell 6
  have q0:=hr.cell 0
  have q1:=hr.cell 1
  have q2:=hr.cell 2
  have q3:=hr.cell 3
  have q4:=hr.cell 4
  have q5:=hr.cell 5
  have q6:=hr.cell 6
  clear hq hr
  clear hb
  go_wp2_with fail
  refine(znw _ _ _ (errno_c _) (HA.out.below HW7.out).ask.tab).mono ?_
  rintro e w8 ⟨rfl,hb⟩
  have HW8:=Lib.hid (HW7.out.trans (hb.mono HW7.out.size))
  have HU8:=Lib.hid (zai HU7.out hb)
  have HV8:=Lib.hid (HV7.out.trans (hb.mono HV7.out.size))
  have hq:=HBK.out.below HU8.out (Nat.lt_succ_self _)
  have hr:=HC3.out.below HV8.out HC3.out.lt
  clear p0 p1 p2 p3 p4 p5 p6 q0 q1 q2 q3 q4 q5 q6
  have p0:=hq.cell 0
  have p1:=hq.cell 1
  have p2:=hq.cell 2
  have p3:=hq.cell 3
  have p4:=hq.cell 4
  have p5:=hq.cell 5
  have p6:=hq.cell 6
  have q0:=hr.cell 0
  have q1:=hr.cell 1
  have q2:=hr.cell 2
  have q3:=hr.cell 3
  have q4:=hr.cell 4
  have q5:=hr.cell 5
  have q6:=hr.cell 6
  clear hq hr
  clear hb
  go_wp2
  go_ret
  exact⟨rfl,HW8.out⟩
 case inl=>
 obtain⟨rfl,hb⟩:=HPF.out _ _ _ hok ht
 clear ht
 have HW4:=Lib.hid (HW3.out.trans (hb.mono HW3.out.size))
 have HU4:=Lib.hid (zai HU3.out hb)
 have HV4:=Lib.hid (HV3.out.trans (hb.mono HV3.out.size))
 have hq:=HBK.out.below HU4.out (Nat.lt_succ_self _)
 have hr:=HC3.out.below HV4.out HC3.out.lt
 clear p0 p1 p2 p3 p4 p5 p6 q0 q1 q2 q3 q4 q5 q6
 have p0:=hq.cell 0
 have p1:=hq.cell 1
 have p2:=hq.cell 2
 have p3:=hq.cell 3
 have p4:=hq.cell 4
 have p5:=hq.cell 5
 have p6:=hq.cell 6
 have q0:=hr.cell 0
 have q1:=hr.cell 1
 have q2:=hr.cell 2
 have q3:=hr.cell 3
 have q4:=hr.cell 4
 have q5:=hr.cell 5
 have q6:=hr.cell 6
 clear hq hr
 clear hb
 have HKK:=Lib.hid (HK.out HGF.out w4 HW4.out)
 have HRR:=Lib.hid (fun X hX=>HRK.out HGF.out X hX)
 have HRQ:=Lib.hid (fun X hX=>HRP.out HGF.out hok X hX)
 rw[hok]at HKK HRR
 clear hok
 have ee:(TX.toList==TX.toList)=true:=by simp
 go_wp2_with fail
 refine HKK.out.mono ?_
 rintro e w5 ⟨rfl,hb⟩
 rw[show errV (if true=true then 0 else 90)= .nilIface from rfl]
 have HW5:=Lib.hid (HW4.out.trans (hb.mono HW4.out.size))
 have HU5:=Lib.hid (zai HU4.out hb)
 have HV5:=Lib.hid (HV4.out.trans (hb.mono HV4.out.size))
 have hq:=HBK.out.below HU5.out (Nat.lt_succ_self _)
 have hr:=HC3.out.below HV5.out HC3.out.lt
 clear p0 p1 p2 p3 p4 p5 p6 q0 q1 q2 q3 q4 q5 q6
 have p0:=hq.cell 0
 have p1:=hq.cell 1
 have p2:=hq.cell 2
 have p3:=hq.cell 3
 have p4:=hq.cell 4
 have p5:=hq.cell 5
 have p6:=hq.cell 6
 have q0:=hr.cell 0
 have q1:=hr.cell 1
 have q2:=hr.cell 2
 have q3:=hr.cell 3
 have q4:=hr.cell 4
 have q5:=hr.cell 5
 have q6:=hr.cell 6
 clear hq hr
 clear hb
 go_wp2_with fail
 refine(HRR.out _ HW5.out).mono ?_
 rintro e w6 ⟨rfl,hb⟩
 have HW6:=Lib.hid (HW5.out.trans (hb.mono HW5.out.size))
 have HU6:=Lib.hid (zai HU5.out hb)
 have HV6:=Lib.hid (HV5.out.trans (hb.mono HV5.out.size))
 have hq:=HBK.out.below HU6.out (Nat.lt_succ_self _)
 have hr:=HC3.out.below HV6.out HC3.out.lt
 clear p0 p1 p2 p3 p4 p5 p6 q0 q1 q2 q3 q4 q5 q6
 have p0:=hq.cell 0
 have p1:=hq.cell 1
 have p2:=hq.cell 2
 have p3:=hq.cell 3
 have p4:=hq.cell 4
 have p5:=hq.cell 5
 have p6:=hq.cell 6
 have q0:=hr.cell 0
 have q1:=hr.cell 1
 have q2:=hr.cell 2
 have q3:=hr.cell 3
 have q4:=hr.cell 4
 have q5:=hr.cell 5
 have q6:=hr.cell 6
 clear hq hr
 clear hb
 go_wp2_with fail
 refine(HRQ.out _ HW6.out).mono ?_
 rintro e w7 ⟨rfl,hb⟩
 have HW7:=Lib.hid (HW6.out.trans (hb.mono HW6.out.size))
 have HU7:=Lib.hid (zai HU6.out hb)
 have HV7:=Lib.hid (HV6.out.trans (hb.mono HV6.out.size))
 have hq:=HBK.out.below HU7.out (Nat.lt_succ_self _)
 have hr:=HC3.out.below HV7.out HC3.out.lt
 clear p0 p1 p2 p3 p4 p5 p6 q0 q1 q2 q3 q4 q5 q6
 have p0:=hq.cell 0
 have p1:=hq.cell 1
 have p2:=hq.cell 2
 have p3:=hq.cell 3
 have p4:=hq.cell 4
 have p5:=hq.cell 5
 have p6:=hq.cell 6
 have q0:=hr.cell 0
 have q1:=hr.cell 1
 have q2:=hr.cell 2
 have q3:=hr.cell 3
 have q4:=hr.cell 4
 have q5:=hr.cell 5
 have q6:=hr.cell 6
 clear hq hr
 clear hb
 go_wp2
 go_ret
 exact⟨rfl,HW7.out⟩
end Go.Proofs.YtjfgmgkhinehaaaGreatDoor
