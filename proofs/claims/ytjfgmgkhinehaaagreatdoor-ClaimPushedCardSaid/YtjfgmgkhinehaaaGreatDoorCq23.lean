
import Derived.Test.YtjfgmgkhinehaaaGreatDoorCq14
import Derived.Test.YtjfgmgkhinehaaaGreatDoorCq17
import Derived.Test.YtjfgmgkhinehaaaGreatDoorCq19
import Derived.Test.YtjfgmgkhinehaaaGreatDoorCq20
import Derived.Test.YtjfgmgkhinehaaaGreatDoorCq22
set_option maxRecDepth 100000
set_option maxHeartbeats 16000000
set_option linter.all false
namespace Go.Proofs.YtjfgmgkhinehaaaGreatDoor
open Go Go.RowKit
theorem RepK.lies {W:World} {k:List ByteArray} {v:Value} (h:RepK W k v): ∃A c,v= .slice A k.length c∧LiesN W A k:=by
 obtain⟨A,c,e,_,hc⟩:=h
 refine⟨A,c,e,fun hp=> ?_⟩
 obtain⟨b,o,e1,hlt,hcs⟩:=hc hp
 refine⟨b,o,e1,hlt,fun i x hi=> ?_⟩
 obtain⟨t,h1,_,h2⟩:=hcs i (List.getElem?_eq_some_iff.1 hi).1
 rw[h1]at hi
 injection hi with hi
 rw[←hi];exact h2
theorem hasR_any (v:Value) (ns:List ByteArray) (x:ByteArray) (w:World) (h:RepK w ns v) (hn:ns.length≤1000000000):
  Calls Tryz.prog 102 #[v,.string x] w fun e w'=>e= .returned (.bool (hasN ns x))∧w'=w:=by
 have key:Calls Tryz.prog 135 #[v,.string x] w fun e w'=>e= .returned (.bool (hasN ns x))∧w'=w:=by
  obtain⟨A,c,rfl,hl⟩:=h.lies
  by_cases h0:ns=[]
  ·subst h0
   exact Tryz.slices_Contains_string_empty A c x w
  ·obtain⟨b,o,rfl,hlt,hcell⟩:=hl h0
   refine(Tryz.slices_Contains_string b o ns.length c ns x w (Nat.le_refl _) (by omega) (fun j hj=> ?_)).mono ?_
   ·rw[hcell j _ (List.getElem?_eq_getElem hj)]
    simp[List.getD,hj]
   ·rintro e w' ⟨rfl,rfl⟩
    rw[List.take_length,zhx]
    exact⟨rfl,rfl⟩
 have HK:=Lib.hid key
 clear key h
 go_enter Tryz.func102,Tryz.ntmps102
 go_wp2_with(go_at_call 135;(with_reducible refine HK.out.mono ?_);rintro e w' ⟨rfl,rfl⟩)
 go_ret
 exact⟨rfl,rfl⟩
theorem getL_in: ∀{k:List ByteArray} {l:List J} {n:ByteArray} {x:J},getL k l n=some x→x∈l
 |[],l,n,x,h=>by cases l<;>simp[getL]at h
 |m::r,[],n,x,h=>by simp[getL]at h
 |m::r,y::t,n,x,h=>by
  rw[getL]at h
  split at h
  ·injection h with h;rw[h];exact List.mem_cons_self
  ·exact List.mem_cons_of_mem _ (getL_in h)
theorem getJ_in {j:J} {n:ByteArray} {x:J} (h:getJ j n=some x):x∈j.l:=by
 unfold getJ at h
 split at h
 ·exact getL_in h
 ·cases h
theorem Mild.text {j:J} (h:Mild j) (n:ByteArray):(askT j n).1.size≤1000000000:=by
 unfold askT zfj zgs
 split
 ·rename_i x hx
  split
  ·cases h with
   |mk kind m s l k h1 h2 h3=>
    have:=h3 x (getJ_in hx)
    cases this with
    |mk _ _ s' _ _ h4 _ _=>exact h4
  ·show(0:Nat)≤_;omega
 ·show(0:Nat)≤_;omega
theorem Sm.items {j:J} (h:Sm j): ∀x∈j.l,Sm x:=by cases h with|mk _ _ h3=>exact h3
theorem Sm.names {j:J} (h:Sm j):j.k.length≤1000000:=by cases h with|mk _ h2 _=>exact h2
theorem Mild.names {j:J} (h:Mild j): ∀t∈j.k,t.size≤1000000000:=by cases h with|mk _ _ _ _ _ _ h2 _=>exact h2
theorem RepJ.keys {W:World} {j:J} {y0 y1:Int} {y2:ByteArray} {yA:Option Addr} {yp yc:Nat} {yK:Option Addr} {yq yd:Nat} (h:RepJ W j (.agg #[.int .i64 y0,.int .i64 y1,.string y2,.slice yA yp yc,.slice yK yq yd])):RepK W j.k (.slice yK yq yd):=by
 obtain⟨vk,A,c,e, -,hk, -, -⟩:=h.open
 injection e with e
 have e:=congrArg Array.toList e
 simp only[List.cons.injEq,and_true]at e
 rw[e.2.2.2.2];exact hk
theorem subject_any (j:J) (va:Value) (name:ByteArray) (W:World) (ha:RepJ W j va) (hsm:Sm j) (hM:Mild j):
  Calls Tryz.prog 72 #[va,.string name] W (zkx W (askU j name)):=by
 obtain⟨y0,y1,y2,yA,yp,yc,yK,yq,yd,rfl⟩:=ha.form
 obtain⟨W1,hW1⟩: ∃X,X=W.alloc (.cells #[.int .i64 y0,.int .i64 y1,.string y2,.slice yA yp yc,.slice yK yq yd] 27):=⟨_,rfl⟩
 have hB1:Below W.heap.size W W1:=by rw[hW1];exact zaf W _
 have ha1:=RepJ.below hB1 _ _ ha
 have HT:=Lib.hid (zjn j _ name W1 ha1 hsm.items (hM.text name))
 have HH:=Lib.hid (hasR_any _ _ name W1 ha1.keys (by have:=hsm.names;omega))
 have HB1:=Lib.hid hB1
 have HW1:=Lib.hid hW1
 unfold zkx
 have HU:Hid (askU j name=if hasN j.k name=false then(⟨#[]⟩,0)else if(askT j name).2=0∧zbh (strL (askT j name).1)=false then(⟨#[]⟩,90)else askT j name):=Lib.hid rfl
 obtain⟨R,hR⟩: ∃R,R=askU j name:=⟨_,rfl⟩
 rw[←hR]at HU⊢
 obtain⟨hn,hhn⟩: ∃b,b=hasN j.k name:=⟨_,rfl⟩
 rw[←hhn]at HU HH
 obtain⟨q,hq⟩: ∃q,q=askT j name:=⟨_,rfl⟩
 rw[←hq]at HU HT
 obtain⟨t,no⟩:=q
 have HNM:=Lib.hid (fun W=>zgJ t W)
 clear ha ha1 hsm hM hB1 hR hhn hq
 cases hn with
 |false=>
  obtain rfl:R=(⟨#[]⟩,0):=HU.out
  clear HU hW1
  go_enter Tryz.func72,Tryz.ntmps72
  go_wp2_with fail
  rw[show W.alloc (.cells #[.int .i64 y0,.int .i64 y1,.string y2,.slice yA yp yc,.slice yK yq yd] 27)=W1 from HW1.out.symm]
  refine HH.out.mono ?_
  rintro e w' ⟨rfl,rfl⟩
  go_wp2
  go_ret2
  exact⟨rfl,HB1.out⟩
 |true=>
  have x0:W1.cell? ⟨W.heap.size,0,none⟩=some (.int .i64 y0):=by rw[hW1];simp
  have x1:W1.cell? ⟨W.heap.size,1,none⟩=some (.int .i64 y1):=by rw[hW1];simp
  have x2:W1.cell? ⟨W.heap.size,2,none⟩=some (.string y2):=by rw[hW1];simp
  have x3:W1.cell? ⟨W.heap.size,3,none⟩=some (.slice yA yp yc):=by rw[hW1];simp
  have x4:W1.cell? ⟨W.heap.size,4,none⟩=some (.slice yK yq yd):=by rw[hW1];simp
  clear hW1
  by_cases h0:no=0
  ·subst h0
   have HU2:Hid (R=if zbh (strL t)=false then(⟨#[]⟩,90)else(t,0)):=Lib.hid (by
    rw[HU.out,if_neg (by decide)]
    by_cases hb:zbh (strL t)=false
    ·rw[if_pos ⟨rfl,hb⟩,if_pos hb]
    ·rw[if_neg (fun h=>hb h.2),if_neg hb])
   obtain⟨nb,hnb⟩: ∃b,b=zbh (strL t):=⟨_,rfl⟩
   rw[←hnb]at HNM HU2
   clear HU hnb
   cases nb with
   |false=>
    obtain rfl:R=(⟨#[]⟩,90):=HU2.out
    clear HU2
    go_enter Tryz.func72,Tryz.ntmps72
    go_wp2_with fail
    rw[show W.alloc (.cells #[.int .i64 y0,.int .i64 y1,.string y2,.slice yA yp yc,.slice yK yq yd] 27)=W1 from HW1.out.symm]
    refine HH.out.mono ?_
    rintro e w' ⟨rfl,rfl⟩
    go_wp2_with fail
    refine HT.out.mono ?_
    rintro e w2 ⟨rfl,hb⟩
    have HB2:=Lib.hid (HB1.out.trans (hb.mono HB1.out.size))
    rw[zeV]
    clear hb
    go_wp2_with(go_at_call 57;(with_reducible refine(HNM.out _).mono ?_);rintro e w' ⟨rfl,rfl⟩)
    go_ret2
    exact⟨rfl,HB2.out⟩
   |true=>
    obtain rfl:R=(t,0):=HU2.out
    clear HU2
    go_enter Tryz.func72,Tryz.ntmps72
    go_wp2_with fail
    rw[show W.alloc (.cells #[.int .i64 y0,.int .i64 y1,.string y2,.slice yA yp yc,.slice yK yq yd] 27)=W1 from HW1.out.symm]
    refine HH.out.mono ?_
    rintro e w' ⟨rfl,rfl⟩
    go_wp2_with fail
    refine HT.out.mono ?_
    rintro e w2 ⟨rfl,hb⟩
    have HB2:=Lib.hid (HB1.out.trans (hb.mono HB1.out.size))
    rw[zeV]
    clear hb
    go_wp2_with(go_at_call 57;(with_reducible refine(HNM.out _).mono ?_);rintro e w' ⟨rfl,rfl⟩)
    go_ret2
    exact⟨rfl,HB2.out⟩
  ·obtain rfl:R=(t,no):=by
    rw[HU.out,if_neg (by decide),if_neg (fun h=>h0 h.1)]
   have HE:=Lib.hid (zkn h0)
   have HN0:=Lib.hid h0
   clear HU h0
   go_enter Tryz.func72,Tryz.ntmps72
   go_wp2_with fail
   rw[show W.alloc (.cells #[.int .i64 y0,.int .i64 y1,.string y2,.slice yA yp yc,.slice yK yq yd] 27)=W1 from HW1.out.symm]
   refine HH.out.mono ?_
   rintro e w' ⟨rfl,rfl⟩
   go_wp2_with fail
   refine HT.out.mono ?_
   rintro e w2 ⟨rfl,hb⟩
   have HB2:=Lib.hid (HB1.out.trans (hb.mono HB1.out.size))
   rw[HE.out]
   clear hb
   go_wp2
   go_ret2
   exact⟨by rw[HE.out];rfl,HB2.out⟩
def ScTells (W:World) (r:List ByteArray×Int) (e:Ending) (w':World):Prop:= ∃A c,e= .returned (.tuple #[.slice A r.1.length c,errV r.2])∧SliceN w' (.slice A r.1.length c) r.1∧Below W.heap.size W w'
theorem scopesC_any (j:J) (va:Value) (name:ByteArray) (W:World) (ha:RepJ W j va) (hsm:Sm j) (hM:Mild j) (hm:MaxLS W):
  Calls Tryz.prog 92 #[va,.string name] W (ScTells W (askS j name)):=by
 obtain⟨y0,y1,y2,yA,yp,yc,yK,yq,yd,rfl⟩:=ha.form
 have hB1:=zaf W (.cells #[.int .i64 y0,.int .i64 y1,.string y2,.slice yA yp yc,.slice yK yq yd] 27)
 have HT:=Lib.hid (zjn j _ name _ (RepJ.below hB1 _ _ ha) hsm.items (hM.text name))
 have HB1:=Lib.hid hB1
 have hE:=askT_err j name
 have hsz:=hM.text name
 have HU:Hid (askS j name=if(askT j name).2≠0 then([],54)else if okW (zcy (askT j name).1)=true then(zcY (askT j name).1,0)else([],90)):=Lib.hid rfl
 obtain⟨R,hR⟩: ∃R,R=askS j name:=⟨_,rfl⟩
 rw[←hR]at HU⊢
 obtain⟨q,hq⟩: ∃q,q=askT j name:=⟨_,rfl⟩
 rw[←hq]at HU HT hE hsz
 obtain⟨t,no⟩:=q
 have HPS:=Lib.hid (fun(W':World) (hW:Below W.heap.size W W')=>parseS_any t W' (hm.below hW) hsz)
 clear ha hsm hM hB1 hR hq hm hsz
 go_enter Tryz.func92,Tryz.ntmps92
 go_wp2_with fail
 refine HT.out.mono ?_
 rintro e w2 ⟨rfl,hb⟩
 have HB2:=Lib.hid (HB1.out.trans (hb.mono HB1.out.size))
 clear hb HT
 by_cases h0:no=0
 ·subst h0
  rw[zeV]
  clear hE
  have HP:=Lib.hid (HPS.out _ HB2.out)
  clear HPS
  cases hok:okW (zcy t)with
  |true=>
   obtain rfl:R=(zcY t,0):=by rw[HU.out,if_neg (by simp),if_pos hok]
   clear HU
   go_wp2_with fail
   refine HP.out.mono ?_
   rintro e w3 ⟨v,rfl,hsl,hb⟩
   have HB3:=Lib.hid (HB2.out.trans (hb.mono HB2.out.size))
   obtain⟨A,c,rfl,h2⟩:=hsl
   have HSL:Hid (SliceN w3 (.slice A (zcY t).length c) (zcY t)):=Lib.hid ⟨A,c,rfl,h2⟩
   rw[hok,show SErr true= .nilIface from rfl]
   clear hb h2 hok
   go_wp2
   go_ret2
   exact⟨_,_,rfl,HSL.out,HB3.out⟩
  |false=>
   obtain rfl:R=([],90):=by rw[HU.out,if_neg (by simp),if_neg (by rw[hok];decide)]
   clear HU
   go_wp2_with fail
   refine HP.out.mono ?_
   rintro e w3 ⟨v,rfl,hsl,hb⟩
   have HB3:=Lib.hid (HB2.out.trans (hb.mono HB2.out.size))
   obtain⟨A,c,rfl,h2⟩:=hsl
   rw[hok,show SErr false= .iface 95 (.int .i64 70)from rfl]
   clear hb h2 hok
   go_wp2
   go_ret2
   exact⟨_,_,rfl,SliceN.nil _,HB3.out⟩
 ·obtain rfl:R=([],54):=by rw[HU.out,if_pos h0]
  obtain rfl:no=54:=hE.resolve_left h0
  rw[show errV 54= .iface 95 (.int .i64 54)from rfl]
  clear HU HPS hE h0
  go_wp2
  go_ret2
  exact⟨_,_,rfl,SliceN.nil _,HB2.out⟩
def zeros7:List Value:=[.string ⟨#[]⟩,.string ⟨#[]⟩,.string ⟨#[]⟩,.string ⟨#[]⟩,.slice none 0 0,.int .i64 0,.int .i64 0]
theorem zdQ:(Tryz.prog.info? 42).map (·.size)=some 7:=by kernel_rfl
theorem zbv:(Tryz.prog.info? 42).map (·.zero)=some (some (.agg zeros7.toArray)):=by kernel_rfl
theorem zen (i:Nat) (x:ByteArray) (h:zeros7[i]? =some (.string x)):x=⟨#[]⟩:=by
 rcases i with _|_|_|_|_|_|_|i<;>simp[zeros7]at h<;>exact h.symm
def TokTells (W:World) (r:Option TokM) (e:Ending) (w':World):Prop:=
 (∃(t:TokM) (A:Option Addr) (c:Nat),r=some t∧e= .returned (.tuple #[.agg #[.string t.iss,.string t.jti,.string t.cid,.string t.sub,.slice A t.sc.length c,.int .i64 t.iat,.int .i64 t.exp],.nilIface])∧SliceN w' (.slice A t.sc.length c) t.sc∧(∀x∈t.sc,x≠⟨#[]⟩)∧Below W.heap.size W w')∨
 (r=none∧ ∃d x,e= .returned (.tuple #[.agg #[.string ⟨#[]⟩,.string ⟨#[]⟩,.string ⟨#[]⟩,.string ⟨#[]⟩,.slice none 0 0,.int .i64 0,.int .i64 0],.iface d x])∧CErr 90 (.iface d x) w'∧Below W.heap.size W w')
theorem CErr.grownC {n:Int} {v:Value} {w w':World} {g:Nat} {t:TypeId} {cs:List Value} (h:CErr n v w) (hb:Blk w g t cs) (hcs: ∀d x,cs[0]? ≠some (.iface d x)) (hg:w.grownBy w' (some g)):CErr n v w':=by
 rcases h with h|h|⟨h,b,d,x,e,h0⟩
 ·exact .inl h
 ·exact .inr (.inl h)
 ·refine .inr (.inr ⟨h,b,d,x,e,World.grownBy.cell hg h0 ?_⟩)
  intro e2;injection e2 with e2
  have e2:b=g:=e2
  subst e2
  rw[hb.cell]at h0
  exact hcs d x h0
theorem name_ne {x:ByteArray} (h:zbh (strL x)=true):x≠⟨#[]⟩:=by
 rintro rfl
 exact absurd (zho h).1 (by decide)
theorem parseN_ne (s:ByteArray): ∀x∈zcY s,x≠⟨#[]⟩:=fun x hx=>by
 unfold zcY at hx
 split at hx
 ·rename_i h
  unfold okW at h
  rw[Bool.and_eq_true,List.all_eq_true]at h
  exact name_ne (h.1 x (mem_setS.1 hx))
 ·cases hx
theorem askS_ne (j:J) (n:ByteArray): ∀x∈(askS j n).1,x≠⟨#[]⟩:=by
 unfold askS
 split
 ·intro x hx;cases hx
 ·split
  ·exact parseN_ne _
  ·intro x hx;cases hx
theorem tok_kept {j:J} {P1 P2 P3 P4:ByteArray×Int} {P5:List ByteArray×Int} {P6 P7:Int×Int} (h1:P1=zcq ⟨#[]⟩ 0 (askT j nIss)) (h2:P2=zcq ⟨#[]⟩ P1.2 (askT j nJti)) (h3:P3=zcq ⟨#[]⟩ P2.2 (askT j nCid)) (h4:P4=zcq ⟨#[]⟩ P3.2 (askU j nSub)) (h5:P5=zcq [] P4.2 (askS j nScope)) (h6:P6=zcq 0 P5.2 (askI j nIat)) (h7:P7=zcq 0 P6.2 (askI j nExp)):
  (P7.2=0→zbs j=if j.k.all (hasN allNames)=true then some ⟨P1.1,P2.1,P3.1,P4.1,P5.1,P6.1,P7.1⟩else none)∧(P7.2≠0→zbs j=none)∧(∀x∈P5.1,x≠⟨#[]⟩):=by
 have z1:P1.2=0↔(0:Int)=0∧(askT j nIss).2=0:=by rw[h1];exact zeK
 have z2:P2.2=0↔P1.2=0∧(askT j nJti).2=0:=by rw[h2];exact zeK
 have z3:P3.2=0↔P2.2=0∧(askT j nCid).2=0:=by rw[h3];exact zeK
 have z4:P4.2=0↔P3.2=0∧(askU j nSub).2=0:=by rw[h4];exact zeK
 have z5:P5.2=0↔P4.2=0∧(askS j nScope).2=0:=by rw[h5];exact zeK
 have z6:P6.2=0↔P5.2=0∧(askI j nIat).2=0:=by rw[h6];exact zeK
 have z7:P7.2=0↔P6.2=0∧(askI j nExp).2=0:=by rw[h7];exact zeK
 refine⟨fun h=> ?_,fun h=> ?_,?_⟩
 ·obtain⟨k6,e7⟩:=z7.1 h
  obtain⟨k5,e6⟩:=z6.1 k6
  obtain⟨k4,e5⟩:=z5.1 k5
  obtain⟨k3,e4⟩:=z4.1 k4
  obtain⟨k2,e3⟩:=z3.1 k3
  obtain⟨k1,e2⟩:=z2.1 k2
  obtain⟨-,e1⟩:=z1.1 k1
  have v1:P1.1=(askT j nIss).1:=by rw[h1];exact zfa rfl
  have v2:P2.1=(askT j nJti).1:=by rw[h2];exact zfa k1
  have v3:P3.1=(askT j nCid).1:=by rw[h3];exact zfa k2
  have v4:P4.1=(askU j nSub).1:=by rw[h4];exact zfa k3
  have v5:P5.1=(askS j nScope).1:=by rw[h5];exact zfa k4
  have v6:P6.1=(askI j nIat).1:=by rw[h6];exact zfa k5
  have v7:P7.1=(askI j nExp).1:=by rw[h7];exact zfa k6
  rw[v1,v2,v3,v4,v5,v6,v7]
  unfold zbs
  by_cases hw:j.k.all (hasN allNames)=true
  ·rw[if_pos ⟨e1,e2,e3,e4,e5,e6,e7,hw⟩,if_pos hw]
  ·rw[if_neg (fun h=>hw h.2.2.2.2.2.2.2),if_neg hw]
 ·unfold zbs
  rw[if_neg]
  rintro⟨e1,e2,e3,e4,e5,e6,e7, -⟩
  exact h (z7.2 ⟨z6.2 ⟨z5.2 ⟨z4.2 ⟨z3.2 ⟨z2.2 ⟨z1.2 ⟨rfl,e1⟩,e2⟩,e3⟩,e4⟩,e5⟩,e6⟩,e7⟩)
 ·rw[h5]
  unfold zcq
  split
  ·exact askS_ne _ _
  ·intro x hx;cases hx
theorem eT: ∀args w,(callFunc 33 args).run Tryz.prog w= .ok (.enter 33 args) w:=enters_of Tryz.func33 (by kernel_rfl) rfl
theorem eI: ∀args w,(callFunc 36 args).run Tryz.prog w= .ok (.enter 36 args) w:=enters_of Tryz.func36 (by kernel_rfl) rfl
theorem eU: ∀args w,(callFunc 72 args).run Tryz.prog w= .ok (.enter 72 args) w:=enters_of Tryz.func72 (by kernel_rfl) rfl
theorem eS: ∀args w,(callFunc 92 args).run Tryz.prog w= .ok (.enter 92 args) w:=enters_of Tryz.func92 (by kernel_rfl) rfl
theorem zkv (kb f:Nat) {y0 y1:Int} {y2:ByteArray} {yA:Option Addr} {yp yc:Nat} {yK:Option Addr} {yq yd:Nat} (w:World):
  Calls Tryz.prog 71 #[.agg #[.int .i64 y0,.int .i64 y1,.string y2,.slice yA yp yc,.slice yK yq yd],.pointer (some ⟨kb,0,none⟩),.func (.func f) #[] #[]] w fun e w'=> ∃n,e= .returned (.func (.func 101) #[] #[.pointer (some ⟨n+1,0,none⟩),.pointer (some ⟨n+2,0,none⟩),.pointer (some ⟨n,0,none⟩)])∧HeldQ n (n+1) (n+2) kb y0 y1 y2 yA yp yc yK yq yd f #[] w'∧n=w.heap.size∧Below w.heap.size w w':=by
 refine(askingS_any kb f #[] y0 y1 y2 yA yp yc yK yq yd w).mono ?_
 rintro e w' ⟨h1,h2,h3⟩
 exact⟨_,h1,h2,rfl,h3⟩
theorem askingI_n (kb f:Nat) {y0 y1:Int} {y2:ByteArray} {yA:Option Addr} {yp yc:Nat} {yK:Option Addr} {yq yd:Nat} (w:World):
  Calls Tryz.prog 69 #[.agg #[.int .i64 y0,.int .i64 y1,.string y2,.slice yA yp yc,.slice yK yq yd],.pointer (some ⟨kb,0,none⟩),.func (.func f) #[] #[]] w fun e w'=> ∃n,e= .returned (.func (.func 99) #[] #[.pointer (some ⟨n+1,0,none⟩),.pointer (some ⟨n+2,0,none⟩),.pointer (some ⟨n,0,none⟩)])∧HeldQ n (n+1) (n+2) kb y0 y1 y2 yA yp yc yK yq yd f #[] w'∧n=w.heap.size∧Below w.heap.size w w':=by
 refine(askingI_any kb f #[] y0 y1 y2 yA yp yc yK yq yd w).mono ?_
 rintro e w' ⟨h1,h2,h3⟩
 exact⟨_,h1,h2,rfl,h3⟩
theorem askingL_n (kb f:Nat) {y0 y1:Int} {y2:ByteArray} {yA:Option Addr} {yp yc:Nat} {yK:Option Addr} {yq yd:Nat} (w:World):
  Calls Tryz.prog 91 #[.agg #[.int .i64 y0,.int .i64 y1,.string y2,.slice yA yp yc,.slice yK yq yd],.pointer (some ⟨kb,0,none⟩),.func (.func f) #[] #[]] w fun e w'=> ∃n,e= .returned (.func (.func 124) #[] #[.pointer (some ⟨n+1,0,none⟩),.pointer (some ⟨n+2,0,none⟩),.pointer (some ⟨n,0,none⟩)])∧HeldQ n (n+1) (n+2) kb y0 y1 y2 yA yp yc yK yq yd f #[] w'∧n=w.heap.size∧Below w.heap.size w w':=by
 refine(askingL_any kb f #[] y0 y1 y2 yA yp yc yK yq yd w).mono ?_
 rintro e w' ⟨h1,h2,h3⟩
 exact⟨_,h1,h2,rfl,h3⟩
theorem zdW {w w':World} (h:w.grownBy w' none):Below w.heap.size w w':=⟨h.os,h.tape,h.output,h.size,fun i hi=>h.block i hi (by simp)⟩
theorem zjd (n:Int) (i:Nat) (x:ByteArray):[errV n][i]? ≠some (.string x):=by
 rcases i with _|i
 ·unfold errV;split<;>simp
 ·simp
theorem znh (j:J) (va:Value) (W:World) (ha:RepJ W j va) (hsm:Sm j) (hM:Mild j) (hm:MaxLS W):
  Calls Tryz.prog 65 #[va] W (TokTells W (zbs j)):=by
 obtain⟨y0,y1,y2,yA,yp,yc,yK,yq,yd,rfl⟩:=ha.form
 have HT:=Lib.hid (fun(W9:World) (n:ByteArray) (hW: ∃w,Below W.heap.size W w∧Below w.heap.size w W9)=>zjn j _ n W9 (RepJ.below (hW.choose_spec.1.trans (hW.choose_spec.2.mono hW.choose_spec.1.size)) _ _ ha) hsm.items (hM.text n))
 have HI:=Lib.hid (fun(W9:World) (n:ByteArray) (hW: ∃w,Below W.heap.size W w∧Below w.heap.size w W9)=>intC_any j _ n W9 (RepJ.below (hW.choose_spec.1.trans (hW.choose_spec.2.mono hW.choose_spec.1.size)) _ _ ha) hsm.items)
 have HU:=Lib.hid (fun(W9:World) (n:ByteArray) (hW: ∃w,Below W.heap.size W w∧Below w.heap.size w W9)=>subject_any j _ n W9 (RepJ.below (hW.choose_spec.1.trans (hW.choose_spec.2.mono hW.choose_spec.1.size)) _ _ ha) hsm hM)
 have HSC:=Lib.hid (fun(W9:World) (n:ByteArray) (hW: ∃w,Below W.heap.size W w∧Below w.heap.size w W9)=>scopesC_any j _ n W9 (RepJ.below (hW.choose_spec.1.trans (hW.choose_spec.2.mono hW.choose_spec.1.size)) _ _ ha) hsm hM (hm.below (hW.choose_spec.1.trans (hW.choose_spec.2.mono hW.choose_spec.1.size))))
 obtain⟨kA,kc,ekk,hkl⟩:=ha.keys.lies
 have HKL:Hid ((yq=j.k.length∧j.k.length≤1000000)∧LiesN W yK j.k∧NmOk j.k):=Lib.hid (by
  injection ekk with e1 e2 e3
  rw[e1]
  exact⟨⟨e2,hsm.names⟩,hkl,hM.names⟩)
 obtain⟨P1,hP1⟩: ∃p,p=zcq (⟨#[]⟩:ByteArray) 0 (askT j nIss):=⟨_,rfl⟩
 obtain⟨P2,hP2⟩: ∃p,p=zcq (⟨#[]⟩:ByteArray) P1.2 (askT j nJti):=⟨_,rfl⟩
 obtain⟨P3,hP3⟩: ∃p,p=zcq (⟨#[]⟩:ByteArray) P2.2 (askT j nCid):=⟨_,rfl⟩
 obtain⟨P4,hP4⟩: ∃p,p=zcq (⟨#[]⟩:ByteArray) P3.2 (askU j nSub):=⟨_,rfl⟩
 obtain⟨P5,hP5⟩: ∃p,p=zcq ([]:List ByteArray) P4.2 (askS j nScope):=⟨_,rfl⟩
 obtain⟨P6,hP6⟩: ∃p,p=zcq (0:Int) P5.2 (askI j nIat):=⟨_,rfl⟩
 obtain⟨P7,hP7⟩: ∃p,p=zcq (0:Int) P6.2 (askI j nExp):=⟨_,rfl⟩
 have HTK:=Lib.hid (tok_kept hP1 hP2 hP3 hP4 hP5 hP6 hP7)
 have HNE:=Lib.hid HTK.out.2.2
 have HP1:=Lib.hid hP1
 have HP2:=Lib.hid hP2
 have HP3:=Lib.hid hP3
 have HP4:=Lib.hid hP4
 have HP5:=Lib.hid hP5
 have HP6:=Lib.hid hP6
 have HP7:=Lib.hid hP7
 obtain⟨R,hR⟩: ∃R,R=zbs j:=⟨_,rfl⟩
 rw[←hR]at HTK⊢
 obtain⟨w1,hw1⟩: ∃X,X=((W.alloc (.cells #[.int .i64 y0,.int .i64 y1,.string y2,.slice yA yp yc,.slice yK yq yd] 27)).alloc (.cells #[.string ⟨#[]⟩,.string ⟨#[]⟩,.string ⟨#[]⟩,.string ⟨#[]⟩,.slice none 0 0,.int .i64 0,.int .i64 0] 42)).alloc (.cells #[.nilIface] 46):=⟨_,rfl⟩
 have hs1:w1.heap.size=W.heap.size+3:=by rw[hw1];simp
 have hB1:Below W.heap.size W w1:=by rw[hw1];exact(((Below.refl _ _).alloc (Nat.le_refl _) _).alloc (by simp) _).alloc (by simp;omega) _
 have hbj:Blk w1 W.heap.size 27 [.int .i64 y0,.int .i64 y1,.string y2,.slice yA yp yc,.slice yK yq yd]:=by rw[hw1];exact((zcX W rfl [.int .i64 y0,.int .i64 y1,.string y2,.slice yA yp yc,.slice yK yq yd] 27).grownN (World.grownBy_alloc _ _ none)).grownN (World.grownBy_alloc _ _ none)
 have hbr:Blk w1 (W.heap.size+1) 42 zeros7:=by rw[hw1];exact(zcX _ (by simp) zeros7 42).grownN (World.grownBy_alloc _ _ none)
 have hkt:Blk w1 (W.heap.size+2) 46 [errV 0]:=by rw[hw1];exact zcX _ (by simp) [errV 0] 46
 have HW1:=Lib.hid hw1
 have HB1:=Lib.hid hB1
 have HBJ:=Lib.hid hbj
 have HBRB:=Lib.hid hbr
 have HKTB:=Lib.hid hkt
 have HS1:=Lib.hid hs1
 have x0:=hbj.cell 0
 have x1:=hbj.cell 1
 have x2:=hbj.cell 2
 have x3:=hbj.cell 3
 have x4:=hbj.cell 4
 clear ha hsm hM hm ekk hkl hP1 hP2 hP3 hP4 hP5 hP6 hP7 hR hw1 hB1 hbj hbr hkt hs1
 go_enter Tryz.func65,Tryz.ntmps65
 go_wp2_with fail
 rw[show((W.alloc (.cells #[.int .i64 y0,.int .i64 y1,.string y2,.slice yA yp yc,.slice yK yq yd] 27)).alloc (.cells #[.string ⟨#[]⟩,.string ⟨#[]⟩,.string ⟨#[]⟩,.string ⟨#[]⟩,.slice none 0 0,.int .i64 0,.int .i64 0] 42)).alloc (.cells #[.nilIface] 46)=w1 from HW1.out.symm]
 refine wp_region_held_drew (S:=fun X=>X.cell? ⟨W.heap.size,0,none⟩=some (.int .i64 y0)∧X.cell? ⟨W.heap.size,1,none⟩=some (.int .i64 y1)∧X.cell? ⟨W.heap.size,2,none⟩=some (.string y2)∧X.cell? ⟨W.heap.size,3,none⟩=some (.slice yA yp yc)∧X.cell? ⟨W.heap.size,4,none⟩=some (.slice yK yq yd)) (by kernel_rfl) ⟨x0,x1,x2,x3,x4⟩ (fun hHeld=> ?_)
 refine rgT 0 ?_
 try simp only[rgS]
 refine rgT 2 ?_
 try simp only[rgS]
 refine rgO 1 (fun K hK=> ?_)
 go_simp
 (with_reducible refine(zkv (W.heap.size+2) 33 _).mono ?_)
 rintro e wA ⟨n1,rfl,hq1,hn1,hbA⟩
 have hbA:Below w1.heap.size w1 wA:=(Below.refl _ w1).drew.trans hbA
 have q0:=(hbA.cell (zab x0)).trans x0
 have q1:=(hbA.cell (zab x1)).trans x1
 have q2:=(hbA.cell (zab x2)).trans x2
 have q3:=(hbA.cell (zab x3)).trans x3
 have q4:=(hbA.cell (zab x4)).trans x4
 refine hK.out _ _ ⟨q0,q1,q2,q3,q4⟩ (fun hH1=> ?_)
 have HQ1A:=Lib.hid hq1
 have HN1A:Hid (n1=W.heap.size+3):=Lib.hid (by rw[hn1];exact HS1.out)
 have HBA:=Lib.hid hbA
 clear hK K hHeld hq1 hn1 hbA
 try simp only[rgS]
 refine rgO 3 (fun K hK=> ?_)
 go_simp
 (with_reducible refine(askingI_n (W.heap.size+2) 36 _).mono ?_)
 rintro e w2 ⟨n2,rfl,hq2,hn2,hbB⟩
 have hb12:=HBA.out.trans (hbB.mono HBA.out.size)
 have HQ1:=Lib.hid (HQ1A.out.below hbB)
 have HQ2:=Lib.hid hq2
 have HN1:Hid (W.heap.size+2<n1∧W.heap.size+2<n2):=Lib.hid ⟨by rw[HN1A.out];omega,by rw[hn2];have:=HBA.out.size;have:=HS1.out;omega⟩
 have HK2:Hid (W.heap.size+2<w2.heap.size):=Lib.hid (by have:=hb12.size;have:=HS1.out;omega)
 have hB2:=HB1.out.trans (hb12.mono HB1.out.size)
 have HBW:Hid (∀w,w2.grownBy w (some (W.heap.size+2))→Below W.heap.size W w):=Lib.hid (fun w h=>hB2.grown h hB2.size (by intro b e;injection e with e;omega))
 have hbr2:=HBRB.out.below hb12 HBRB.out.lt
 have HBR:Hid (∀w,w2.grownBy w (some (W.heap.size+2))→Blk w (W.heap.size+1) 42 zeros7):=Lib.hid (fun w h=>hbr2.grown h (by intro e;injection e with e;omega))
 have hbj2:=HBJ.out.below hb12 HBJ.out.lt
 have HV5:Hid (∀w,w2.grownBy w (some (W.heap.size+2))→w.cell? ⟨W.heap.size,0,none⟩=some (.int .i64 y0)∧w.cell? ⟨W.heap.size,1,none⟩=some (.int .i64 y1)∧w.cell? ⟨W.heap.size,2,none⟩=some (.string y2)∧w.cell? ⟨W.heap.size,3,none⟩=some (.slice yA yp yc)∧w.cell? ⟨W.heap.size,4,none⟩=some (.slice yK yq yd)):=Lib.hid (fun w h=>by
  have hz:=hbj2.grown h (by intro e;injection e with e;omega)
  exact⟨hz.cell 0,hz.cell 1,hz.cell 2,hz.cell 3,hz.cell 4⟩)
 have HT0:Hid (w2.grownBy w2 (some (W.heap.size+2))∧Blk w2 (W.heap.size+2) 46 [errV 0]):=Lib.hid ⟨zae _ _,HKTB.out.below hb12 HKTB.out.lt⟩
 refine hK.out _ _ (HV5.out _ HT0.out.1) (fun hH2=> ?_)
 clear hK K hH1 hq2 hn2 hbB hb12 hB2 hbr2 hbj2 q0 q1 q2 q3 q4 x0 x1 x2 x3 x4
 try simp only[rgS]
 refine rgT 4 ?_
 try simp only[rgS]
 refine rgT 5 ?_
 try simp only[rgS]
 refine wpAnyH_done (by kernel_rfl) ?_ _
 clear hH2
 have hV:=HV5.out _ HT0.out.1
 go_wp2_with fail
 refine wp_region_held_drew (S:=fun X=>X.cell? ⟨W.heap.size,0,none⟩=some (.int .i64 y0)∧X.cell? ⟨W.heap.size,1,none⟩=some (.int .i64 y1)∧X.cell? ⟨W.heap.size,2,none⟩=some (.string y2)∧X.cell? ⟨W.heap.size,3,none⟩=some (.slice yA yp yc)∧X.cell? ⟨W.heap.size,4,none⟩=some (.slice yK yq yd)) (by kernel_rfl) hV (fun hHeld=> ?_)
 refine rgT 0 ?_
 try simp only[rgS]
 refine rgT 2 ?_
 try simp only[rgS]
 refine rgT 4 ?_
 try simp only[rgS]
 refine rgT 6 ?_
 try simp only[rgS]
 refine rgT 9 ?_
 try simp only[rgS]
 refine rgT 12 ?_
 try simp only[rgS]
 refine rgT 14 ?_
 try simp only[rgS]
 have hT0:=HT0.out
 have HT0:Hid (w2.grownBy w2.drew (some (W.heap.size+2))∧Blk w2.drew (W.heap.size+2) 46 [errV 0]):=Lib.hid ⟨zaJ hT0.1,hT0.2⟩
 clear hT0 hV hHeld
 revert HT0
 generalize w2.drew=v0
 revert v0
 apply ziv
 ·intro k9
  apply ziv
  ·intro k8
   apply ziv
   ·intro k7
    apply ziv
    ·intro k6
     apply ziv
     ·intro k5
      apply ziv
      ·intro k4
       apply ziv
       ·intro k3
        apply ziv
        ·intro k2
         apply ziv
         ·intro k1
          apply ziv
          ·intro k0
           intro v0 HT0
           have hV:=HV5.out _ HT0.out.1
           refine wpAnyH_ready (rs:=[1,17]) (by kernel_rfl) (by simp) ?_
           refine AllReadyH.cons rfl (fun K hK=> ?_) (AllReadyH.cons rfl (fun K hK=> ?_) AllReadyH.nil)
           ·skip
            go_simp
            have hcall:=(zej n1 (n1+1) (n1+2) (W.heap.size+2) 33 #[] y0 y1 y2 yA yp yc yK yq yd nIss 0 (askT j nIss) v0 (HQ1.out.grown HT0.out.1 HN1.out.1 (by omega) (by omega)) HT0.out.2 HN1.out.1 (by omega) (by omega) eT (fun _ W9 hW9=>by rw[Array.append_empty];exact HT.out W9 nIss ⟨_,HBW.out _ HT0.out.1,hW9⟩))
            refine hcall.mono ?_
            clear hcall
            rintro e w9 ⟨rfl,hk9,hg9⟩
            rw[←HP1.out]at hk9⊢
            have HS9:Hid (w2.grownBy w9 (some (W.heap.size+2))∧Blk w9 (W.heap.size+2) 46 [errV P1.2]):=Lib.hid ⟨HT0.out.1.trans hg9,hk9⟩
            clear hk9 hg9
            refine hK.out _ _ (HV5.out _ HS9.out.1) (fun hH=> ?_)
            clear hK K hH hV HT0
            try simp only[rgS]
            clear v0
            rename World=>v1
            have HT1:=HS9
            clear HS9
            have hV:=HV5.out _ HT1.out.1
            refine wpAnyH_ready (rs:=[3,17]) (by kernel_rfl) (by simp) ?_
            refine AllReadyH.cons rfl (fun K hK=> ?_) (AllReadyH.cons rfl (fun K hK=> ?_) AllReadyH.nil)
            ·skip
             go_simp
             have hcall:=(zej n1 (n1+1) (n1+2) (W.heap.size+2) 33 #[] y0 y1 y2 yA yp yc yK yq yd nJti P1.2 (askT j nJti) v1 (HQ1.out.grown HT1.out.1 HN1.out.1 (by omega) (by omega)) HT1.out.2 HN1.out.1 (by omega) (by omega) eT (fun _ W9 hW9=>by rw[Array.append_empty];exact HT.out W9 nJti ⟨_,HBW.out _ HT1.out.1,hW9⟩))
             refine hcall.mono ?_
             clear hcall
             rintro e w9 ⟨rfl,hk9,hg9⟩
             rw[←HP2.out]at hk9⊢
             have HS9:Hid (w2.grownBy w9 (some (W.heap.size+2))∧Blk w9 (W.heap.size+2) 46 [errV P2.2]):=Lib.hid ⟨HT1.out.1.trans hg9,hk9⟩
             clear hk9 hg9
             refine hK.out _ _ (HV5.out _ HS9.out.1) (fun hH=> ?_)
             clear hK K hH hV HT1
             try simp only[rgS]
             clear v1
             rename World=>v2
             have HT2:=HS9
             clear HS9
             have hV:=HV5.out _ HT2.out.1
             refine wpAnyH_ready (rs:=[5,17]) (by kernel_rfl) (by simp) ?_
             refine AllReadyH.cons rfl (fun K hK=> ?_) (AllReadyH.cons rfl (fun K hK=> ?_) AllReadyH.nil)
             ·skip
              go_simp
              have hcall:=(zej n1 (n1+1) (n1+2) (W.heap.size+2) 33 #[] y0 y1 y2 yA yp yc yK yq yd nCid P2.2 (askT j nCid) v2 (HQ1.out.grown HT2.out.1 HN1.out.1 (by omega) (by omega)) HT2.out.2 HN1.out.1 (by omega) (by omega) eT (fun _ W9 hW9=>by rw[Array.append_empty];exact HT.out W9 nCid ⟨_,HBW.out _ HT2.out.1,hW9⟩))
              refine hcall.mono ?_
              clear hcall
              rintro e w9 ⟨rfl,hk9,hg9⟩
              rw[←HP3.out]at hk9⊢
              have HS9:Hid (w2.grownBy w9 (some (W.heap.size+2))∧Blk w9 (W.heap.size+2) 46 [errV P3.2]):=Lib.hid ⟨HT2.out.1.trans hg9,hk9⟩
              clear hk9 hg9
              refine hK.out _ _ (HV5.out _ HS9.out.1) (fun hH=> ?_)
              clear hK K hH hV HT2
              try simp only[rgS]
              clear v2
              rename World=>v3
              have HT3:=HS9
              clear HS9
              have hV:=HV5.out _ HT3.out.1
              refine wpAnyH_ready (rs:=[7,17]) (by kernel_rfl) (by simp) ?_
              refine AllReadyH.cons rfl (fun K hK=> ?_) (AllReadyH.cons rfl (fun K hK=> ?_) AllReadyH.nil)
              ·skip
               go_simp
               (with_reducible refine(zkv (W.heap.size+2) 72 v3).mono ?_)
               rintro e w9 ⟨n3,rfl,hq,hn9,hb⟩
               have HS9:Hid (w2.grownBy w9 (some (W.heap.size+2))∧Blk w9 (W.heap.size+2) 46 [errV P3.2]∧HeldQ n3 (n3+1) (n3+2) (W.heap.size+2) y0 y1 y2 yA yp yc yK yq yd 72 #[] w9∧(W.heap.size+2)<n3):=Lib.hid ⟨HT3.out.1.trans ((zad hb none).but _),(HT3.out.2).below hb (HT3.out.2).lt,hq,(by have:=HT3.out.1.size;have:=HK2.out;omega)⟩
               clear hq hn9 hb
               refine hK.out _ _ (HV5.out _ HS9.out.1) (fun hH=> ?_)
               clear hK K hH hV HT3
               try simp only[rgS]
               clear v3
               rename World=>v4
               have HT4:=HS9
               clear HS9
               have hV:=HV5.out _ HT4.out.1
               refine wpAnyH_ready (rs:=[8,17]) (by kernel_rfl) (by simp) ?_
               refine AllReadyH.cons rfl (fun K hK=> ?_) (AllReadyH.cons rfl (fun K hK=> ?_) AllReadyH.nil)
               ·skip
                go_simp
                have hcall:=(zej n3 (n3+1) (n3+2) (W.heap.size+2) 72 #[] y0 y1 y2 yA yp yc yK yq yd nSub P3.2 (askU j nSub) v4 (HT4.out.2.2.1) HT4.out.2.1 (HT4.out.2.2.2) (by omega) (by omega) eU (fun _ W9 hW9=>by rw[Array.append_empty];exact HU.out W9 nSub ⟨_,HBW.out _ HT4.out.1,hW9⟩))
                refine hcall.mono ?_
                clear hcall
                rintro e w9 ⟨rfl,hk9,hg9⟩
                rw[←HP4.out]at hk9⊢
                have HS9:Hid (w2.grownBy w9 (some (W.heap.size+2))∧Blk w9 (W.heap.size+2) 46 [errV P4.2]):=Lib.hid ⟨HT4.out.1.trans hg9,hk9⟩
                clear hk9 hg9
                refine hK.out _ _ (HV5.out _ HS9.out.1) (fun hH=> ?_)
                clear hK K hH hV HT4
                try simp only[rgS]
                clear v4
                rename World=>v5
                have HT5:=HS9
                clear HS9
                have hV:=HV5.out _ HT5.out.1
                refine wpAnyH_ready (rs:=[10,17]) (by kernel_rfl) (by simp) ?_
                refine AllReadyH.cons rfl (fun K hK=> ?_) (AllReadyH.cons rfl (fun K hK=> ?_) AllReadyH.nil)
                ·skip
                 go_simp
                 (with_reducible refine(askingL_n (W.heap.size+2) 92 v5).mono ?_)
                 rintro e w9 ⟨n4,rfl,hq,hn9,hb⟩
                 have HS9:Hid (w2.grownBy w9 (some (W.heap.size+2))∧Blk w9 (W.heap.size+2) 46 [errV P4.2]∧HeldQ n4 (n4+1) (n4+2) (W.heap.size+2) y0 y1 y2 yA yp yc yK yq yd 92 #[] w9∧(W.heap.size+2)<n4):=Lib.hid ⟨HT5.out.1.trans ((zad hb none).but _),(HT5.out.2).below hb (HT5.out.2).lt,hq,(by have:=HT5.out.1.size;have:=HK2.out;omega)⟩
                 clear hq hn9 hb
                 refine hK.out _ _ (HV5.out _ HS9.out.1) (fun hH=> ?_)
                 clear hK K hH hV HT5
                 try simp only[rgS]
                 clear v5
                 rename World=>v6
                 have HT6:=HS9
                 clear HS9
                 have hV:=HV5.out _ HT6.out.1
                 refine wpAnyH_ready (rs:=[11,17]) (by kernel_rfl) (by simp) ?_
                 refine AllReadyH.cons rfl (fun K hK=> ?_) (AllReadyH.cons rfl (fun K hK=> ?_) AllReadyH.nil)
                 ·skip
                  go_simp
                  have hcall:=(askL_any n4 (n4+1) (n4+2) (W.heap.size+2) 92 #[] y0 y1 y2 yA yp yc yK yq yd nScope P4.2 (askS j nScope) v6 (HT6.out.2.2.1) HT6.out.2.1 (HT6.out.2.2.2) (by omega) (by omega) eS (fun _ W9 hW9=>by rw[Array.append_empty];exact HSC.out W9 nScope ⟨_,HBW.out _ HT6.out.1,hW9⟩))
                  refine hcall.mono ?_
                  clear hcall
                  rintro e w9 ⟨v9,rfl,hsl,hk9,hg9⟩
                  rw[←HP5.out]at hsl hk9
                  obtain⟨A,c,rfl,hcc,hll,hoo⟩:=hsl
                  have HS9:Hid (w2.grownBy w9 (some (W.heap.size+2))∧Blk w9 (W.heap.size+2) 46 [errV P5.2]∧SliceN w9 (.slice A P5.1.length c) P5.1):=Lib.hid ⟨HT6.out.1.trans hg9,hk9,⟨A,c,rfl,hcc,hll,hoo⟩⟩
                  clear hk9 hg9 hcc hll hoo
                  refine hK.out _ _ (HV5.out _ HS9.out.1) (fun hH=> ?_)
                  clear hK K hH hV HT6
                  try simp only[rgS]
                  clear v6
                  rename World=>v7
                  have HT7:=HS9
                  clear HS9
                  have hV:=HV5.out _ HT7.out.1
                  refine wpAnyH_ready (rs:=[13,17]) (by kernel_rfl) (by simp) ?_
                  refine AllReadyH.cons rfl (fun K hK=> ?_) (AllReadyH.cons rfl (fun K hK=> ?_) AllReadyH.nil)
                  ·skip
                   go_simp
                   have hcall:=(zjf n2 (n2+1) (n2+2) (W.heap.size+2) 36 #[] y0 y1 y2 yA yp yc yK yq yd nIat P5.2 (askI j nIat) v7 (HQ2.out.grown HT7.out.1 HN1.out.2 (by omega) (by omega)) HT7.out.2.1 HN1.out.2 (by omega) (by omega) eI (fun _ W9 hW9=>by rw[Array.append_empty];exact HI.out W9 nIat ⟨_,HBW.out _ HT7.out.1,hW9⟩))
                   refine hcall.mono ?_
                   clear hcall
                   rintro e w9 ⟨rfl,hk9,hg9⟩
                   rw[←HP6.out]at hk9⊢
                   have HS9:Hid (w2.grownBy w9 (some (W.heap.size+2))∧Blk w9 (W.heap.size+2) 46 [errV P6.2]∧SliceN w9 (.slice A P5.1.length c) P5.1):=Lib.hid ⟨HT7.out.1.trans hg9,hk9,(HT7.out.2.2).grownC HT7.out.2.1 (fun i x h=>absurd h (zjd _ i x)) hg9⟩
                   clear hk9 hg9
                   refine hK.out _ _ (HV5.out _ HS9.out.1) (fun hH=> ?_)
                   clear hK K hH hV HT7
                   try simp only[rgS]
                   clear v7
                   rename World=>v8
                   have HT8:=HS9
                   clear HS9
                   have hV:=HV5.out _ HT8.out.1
                   refine wpAnyH_ready (rs:=[15,17]) (by kernel_rfl) (by simp) ?_
                   refine AllReadyH.cons rfl (fun K hK=> ?_) (AllReadyH.cons rfl (fun K hK=> ?_) AllReadyH.nil)
                   ·skip
                    go_simp
                    have hcall:=(zjf n2 (n2+1) (n2+2) (W.heap.size+2) 36 #[] y0 y1 y2 yA yp yc yK yq yd nExp P6.2 (askI j nExp) v8 (HQ2.out.grown HT8.out.1 HN1.out.2 (by omega) (by omega)) HT8.out.2.1 HN1.out.2 (by omega) (by omega) eI (fun _ W9 hW9=>by rw[Array.append_empty];exact HI.out W9 nExp ⟨_,HBW.out _ HT8.out.1,hW9⟩))
                    refine hcall.mono ?_
                    clear hcall
                    rintro e w9 ⟨rfl,hk9,hg9⟩
                    rw[←HP7.out]at hk9⊢
                    have HS9:Hid (w2.grownBy w9 (some (W.heap.size+2))∧Blk w9 (W.heap.size+2) 46 [errV P7.2]∧SliceN w9 (.slice A P5.1.length c) P5.1):=Lib.hid ⟨HT8.out.1.trans hg9,hk9,(HT8.out.2.2).grownC HT8.out.2.1 (fun i x h=>absurd h (zjd _ i x)) hg9⟩
                    clear hk9 hg9
                    refine hK.out _ _ (HV5.out _ HS9.out.1) (fun hH=> ?_)
                    clear hK K hH hV HT8
                    try simp only[rgS]
                    clear v8
                    rename World=>v9
                    have HT9:=HS9
                    clear HS9
                    have hV:=HV5.out _ HT9.out.1
                    refine rgT 16 ?_
                    try simp only[rgS]
                    refine rgO 17 (fun K hK=> ?_)
                    rw[if_pos (by kernel_rfl)]
                    refine zbm 42 zeros7 rfl zbv ?_
                    intro g7 w9 hg hbg hgr
                    have HS9:Hid (w2.grownBy w9 (some (W.heap.size+2))∧Blk w9 (W.heap.size+2) 46 [errV P7.2]∧Blk w9 g7 42 zeros7∧w2.heap.size≤g7∧SliceN w9 (.slice A P5.1.length c) P5.1):=Lib.hid ⟨HT9.out.1.trans (hgr.but _),(HT9.out.2.1).grownN hgr,hbg,(Nat.le_trans HT9.out.1.size hg),(HT9.out.2.2).below (zdW hgr)⟩
                    refine hK.out _ _ (HV5.out _ HS9.out.1) (fun hH=> ?_)
                    clear hK K hH hg hbg hgr HT9 hV
                    try simp only[rgS]
                    clear v9
                    revert HS9
                    revert c
                    revert A
                    revert n4
                    revert n3
                    revert g7
                    revert w9
                    exact k9.out
                   ·skip
                    rw[if_pos (by kernel_rfl)]
                    refine zbm 42 zeros7 rfl zbv ?_
                    intro g7 w9 hg hbg hgr
                    have HS9:Hid (w2.grownBy w9 (some (W.heap.size+2))∧Blk w9 (W.heap.size+2) 46 [errV P6.2]∧Blk w9 g7 42 zeros7∧w2.heap.size≤g7∧SliceN w9 (.slice A P5.1.length c) P5.1):=Lib.hid ⟨HT8.out.1.trans (hgr.but _),(HT8.out.2.1).grownN hgr,hbg,(Nat.le_trans HT8.out.1.size hg),(HT8.out.2.2).below (zdW hgr)⟩
                    refine hK.out _ _ (HV5.out _ HS9.out.1) (fun hH=> ?_)
                    clear hK K hH hg hbg hgr HT8 hV
                    try simp only[rgS]
                    clear v8
                    revert HS9
                    revert c
                    revert A
                    revert n4
                    revert n3
                    revert g7
                    revert w9
                    exact k8.out
                  ·skip
                   rw[if_pos (by kernel_rfl)]
                   refine zbm 42 zeros7 rfl zbv ?_
                   intro g7 w9 hg hbg hgr
                   have HS9:Hid (w2.grownBy w9 (some (W.heap.size+2))∧Blk w9 (W.heap.size+2) 46 [errV P5.2]∧Blk w9 g7 42 zeros7∧w2.heap.size≤g7∧SliceN w9 (.slice A P5.1.length c) P5.1):=Lib.hid ⟨HT7.out.1.trans (hgr.but _),(HT7.out.2.1).grownN hgr,hbg,(Nat.le_trans HT7.out.1.size hg),(HT7.out.2.2).below (zdW hgr)⟩
                   refine hK.out _ _ (HV5.out _ HS9.out.1) (fun hH=> ?_)
                   clear hK K hH hg hbg hgr HT7 hV
                   try simp only[rgS]
                   clear v7
                   revert HS9
                   revert c
                   revert A
                   revert n4
                   revert n3
                   revert g7
                   revert w9
                   exact k7.out
                 ·skip
                  rw[if_pos (by kernel_rfl)]
                  refine zbm 42 zeros7 rfl zbv ?_
                  intro g7 w9 hg hbg hgr
                  have HS9:Hid (w2.grownBy w9 (some (W.heap.size+2))∧Blk w9 (W.heap.size+2) 46 [errV P4.2]∧Blk w9 g7 42 zeros7∧w2.heap.size≤g7∧HeldQ n4 (n4+1) (n4+2) (W.heap.size+2) y0 y1 y2 yA yp yc yK yq yd 92 #[] w9∧(W.heap.size+2)<n4):=Lib.hid ⟨HT6.out.1.trans (hgr.but _),(HT6.out.2.1).grownN hgr,hbg,(Nat.le_trans HT6.out.1.size hg),(HT6.out.2.2.1).below (zdW hgr),HT6.out.2.2.2⟩
                  refine hK.out _ _ (HV5.out _ HS9.out.1) (fun hH=> ?_)
                  clear hK K hH hg hbg hgr HT6 hV
                  try simp only[rgS]
                  clear v6
                  revert HS9
                  revert n4
                  revert n3
                  revert g7
                  revert w9
                  exact k6.out
                ·skip
                 rw[if_pos (by kernel_rfl)]
                 refine zbm 42 zeros7 rfl zbv ?_
                 intro g7 w9 hg hbg hgr
                 have HS9:Hid (w2.grownBy w9 (some (W.heap.size+2))∧Blk w9 (W.heap.size+2) 46 [errV P4.2]∧Blk w9 g7 42 zeros7∧w2.heap.size≤g7):=Lib.hid ⟨HT5.out.1.trans (hgr.but _),(HT5.out.2).grownN hgr,hbg,(Nat.le_trans HT5.out.1.size hg)⟩
                 refine hK.out _ _ (HV5.out _ HS9.out.1) (fun hH=> ?_)
                 clear hK K hH hg hbg hgr HT5 hV
                 try simp only[rgS]
                 clear v5
                 revert HS9
                 revert n3
                 revert g7
                 revert w9
                 exact k5.out
               ·skip
                rw[if_pos (by kernel_rfl)]
                refine zbm 42 zeros7 rfl zbv ?_
                intro g7 w9 hg hbg hgr
                have HS9:Hid (w2.grownBy w9 (some (W.heap.size+2))∧Blk w9 (W.heap.size+2) 46 [errV P3.2]∧Blk w9 g7 42 zeros7∧w2.heap.size≤g7∧HeldQ n3 (n3+1) (n3+2) (W.heap.size+2) y0 y1 y2 yA yp yc yK yq yd 72 #[] w9∧(W.heap.size+2)<n3):=Lib.hid ⟨HT4.out.1.trans (hgr.but _),(HT4.out.2.1).grownN hgr,hbg,(Nat.le_trans HT4.out.1.size hg),(HT4.out.2.2.1).below (zdW hgr),HT4.out.2.2.2⟩
                refine hK.out _ _ (HV5.out _ HS9.out.1) (fun hH=> ?_)
                clear hK K hH hg hbg hgr HT4 hV
                try simp only[rgS]
                clear v4
                revert HS9
                revert n3
                revert g7
                revert w9
                exact k4.out
              ·skip
               rw[if_pos (by kernel_rfl)]
               refine zbm 42 zeros7 rfl zbv ?_
               intro g7 w9 hg hbg hgr
               have HS9:Hid (w2.grownBy w9 (some (W.heap.size+2))∧Blk w9 (W.heap.size+2) 46 [errV P3.2]∧Blk w9 g7 42 zeros7∧w2.heap.size≤g7):=Lib.hid ⟨HT3.out.1.trans (hgr.but _),(HT3.out.2).grownN hgr,hbg,(Nat.le_trans HT3.out.1.size hg)⟩
               refine hK.out _ _ (HV5.out _ HS9.out.1) (fun hH=> ?_)
               clear hK K hH hg hbg hgr HT3 hV
               try simp only[rgS]
               clear v3
               revert HS9
               revert g7
               revert w9
               exact k3.out
             ·skip
              rw[if_pos (by kernel_rfl)]
              refine zbm 42 zeros7 rfl zbv ?_
              intro g7 w9 hg hbg hgr
              have HS9:Hid (w2.grownBy w9 (some (W.heap.size+2))∧Blk w9 (W.heap.size+2) 46 [errV P2.2]∧Blk w9 g7 42 zeros7∧w2.heap.size≤g7):=Lib.hid ⟨HT2.out.1.trans (hgr.but _),(HT2.out.2).grownN hgr,hbg,(Nat.le_trans HT2.out.1.size hg)⟩
              refine hK.out _ _ (HV5.out _ HS9.out.1) (fun hH=> ?_)
              clear hK K hH hg hbg hgr HT2 hV
              try simp only[rgS]
              clear v2
              revert HS9
              revert g7
              revert w9
              exact k2.out
            ·skip
             rw[if_pos (by kernel_rfl)]
             refine zbm 42 zeros7 rfl zbv ?_
             intro g7 w9 hg hbg hgr
             have HS9:Hid (w2.grownBy w9 (some (W.heap.size+2))∧Blk w9 (W.heap.size+2) 46 [errV P1.2]∧Blk w9 g7 42 zeros7∧w2.heap.size≤g7):=Lib.hid ⟨HT1.out.1.trans (hgr.but _),(HT1.out.2).grownN hgr,hbg,(Nat.le_trans HT1.out.1.size hg)⟩
             refine hK.out _ _ (HV5.out _ HS9.out.1) (fun hH=> ?_)
             clear hK K hH hg hbg hgr HT1 hV
             try simp only[rgS]
             clear v1
             revert HS9
             revert g7
             revert w9
             exact k1.out
           ·skip
            rw[if_pos (by kernel_rfl)]
            refine zbm 42 zeros7 rfl zbv ?_
            intro g7 w9 hg hbg hgr
            have HS9:Hid (w2.grownBy w9 (some (W.heap.size+2))∧Blk w9 (W.heap.size+2) 46 [errV 0]∧Blk w9 g7 42 zeros7∧w2.heap.size≤g7):=Lib.hid ⟨HT0.out.1.trans (hgr.but _),(HT0.out.2).grownN hgr,hbg,(Nat.le_trans HT0.out.1.size hg)⟩
            refine hK.out _ _ (HV5.out _ HS9.out.1) (fun hH=> ?_)
            clear hK K hH hg hbg hgr HT0 hV
            try simp only[rgS]
            clear v0
            revert HS9
            revert g7
            revert w9
            exact k0.out
          ·intro w g7 HS
           have hV:=HV5.out _ HS.out.1
           refine rgO 1 (fun K hK=> ?_)
           go_simp
           have hcall:=(zej n1 (n1+1) (n1+2) (W.heap.size+2) 33 #[] y0 y1 y2 yA yp yc yK yq yd nIss 0 (askT j nIss) w (HQ1.out.grown HS.out.1 HN1.out.1 (by omega) (by omega)) HS.out.2.1 HN1.out.1 (by omega) (by omega) eT (fun _ W9 hW9=>by rw[Array.append_empty];exact HT.out W9 nIss ⟨_,HBW.out _ HS.out.1,hW9⟩))
           refine hcall.mono ?_
           clear hcall
           rintro e w9 ⟨rfl,hk9,hg9⟩
           rw[←HP1.out]at hk9⊢
           have HS9:Hid (w2.grownBy w9 (some (W.heap.size+2))∧Blk w9 (W.heap.size+2) 46 [errV P1.2]∧Blk w9 g7 42 zeros7∧w2.heap.size≤g7):=Lib.hid ⟨HS.out.1.trans hg9,hk9,(HS.out.2.2.1).grown hg9 (by intro e;injection e with e;have:=HS.out.2.2.2;have:=HK2.out;omega),HS.out.2.2.2⟩
           clear hk9 hg9
           refine hK.out _ _ (HV5.out _ HS9.out.1) (fun hH=> ?_)
           clear hK K hH HS hV
           try simp only[rgS]
           clear w
           revert HS9
           revert g7
           revert w9
           exact k1.out
         ·intro w g7 HS
          have hV:=HV5.out _ HS.out.1
          refine rgO 3 (fun K hK=> ?_)
          go_simp
          have hcall:=(zej n1 (n1+1) (n1+2) (W.heap.size+2) 33 #[] y0 y1 y2 yA yp yc yK yq yd nJti P1.2 (askT j nJti) w (HQ1.out.grown HS.out.1 HN1.out.1 (by omega) (by omega)) HS.out.2.1 HN1.out.1 (by omega) (by omega) eT (fun _ W9 hW9=>by rw[Array.append_empty];exact HT.out W9 nJti ⟨_,HBW.out _ HS.out.1,hW9⟩))
          refine hcall.mono ?_
          clear hcall
          rintro e w9 ⟨rfl,hk9,hg9⟩
          rw[←HP2.out]at hk9⊢
          have HS9:Hid (w2.grownBy w9 (some (W.heap.size+2))∧Blk w9 (W.heap.size+2) 46 [errV P2.2]∧Blk w9 g7 42 zeros7∧w2.heap.size≤g7):=Lib.hid ⟨HS.out.1.trans hg9,hk9,(HS.out.2.2.1).grown hg9 (by intro e;injection e with e;have:=HS.out.2.2.2;have:=HK2.out;omega),HS.out.2.2.2⟩
          clear hk9 hg9
          refine hK.out _ _ (HV5.out _ HS9.out.1) (fun hH=> ?_)
          clear hK K hH HS hV
          try simp only[rgS]
          clear w
          revert HS9
          revert g7
          revert w9
          exact k2.out
        ·intro w g7 HS
         have hV:=HV5.out _ HS.out.1
         refine rgO 5 (fun K hK=> ?_)
         go_simp
         have hcall:=(zej n1 (n1+1) (n1+2) (W.heap.size+2) 33 #[] y0 y1 y2 yA yp yc yK yq yd nCid P2.2 (askT j nCid) w (HQ1.out.grown HS.out.1 HN1.out.1 (by omega) (by omega)) HS.out.2.1 HN1.out.1 (by omega) (by omega) eT (fun _ W9 hW9=>by rw[Array.append_empty];exact HT.out W9 nCid ⟨_,HBW.out _ HS.out.1,hW9⟩))
         refine hcall.mono ?_
         clear hcall
         rintro e w9 ⟨rfl,hk9,hg9⟩
         rw[←HP3.out]at hk9⊢
         have HS9:Hid (w2.grownBy w9 (some (W.heap.size+2))∧Blk w9 (W.heap.size+2) 46 [errV P3.2]∧Blk w9 g7 42 zeros7∧w2.heap.size≤g7):=Lib.hid ⟨HS.out.1.trans hg9,hk9,(HS.out.2.2.1).grown hg9 (by intro e;injection e with e;have:=HS.out.2.2.2;have:=HK2.out;omega),HS.out.2.2.2⟩
         clear hk9 hg9
         refine hK.out _ _ (HV5.out _ HS9.out.1) (fun hH=> ?_)
         clear hK K hH HS hV
         try simp only[rgS]
         clear w
         revert HS9
         revert g7
         revert w9
         exact k3.out
       ·intro w g7 HS
        have hV:=HV5.out _ HS.out.1
        refine rgO 7 (fun K hK=> ?_)
        go_simp
        (with_reducible refine(zkv (W.heap.size+2) 72 w).mono ?_)
        rintro e w9 ⟨n3,rfl,hq,hn9,hb⟩
        have HS9:Hid (w2.grownBy w9 (some (W.heap.size+2))∧Blk w9 (W.heap.size+2) 46 [errV P3.2]∧Blk w9 g7 42 zeros7∧w2.heap.size≤g7∧HeldQ n3 (n3+1) (n3+2) (W.heap.size+2) y0 y1 y2 yA yp yc yK yq yd 72 #[] w9∧(W.heap.size+2)<n3):=Lib.hid ⟨HS.out.1.trans ((zad hb none).but _),(HS.out.2.1).below hb (HS.out.2.1).lt,(HS.out.2.2.1).below hb (HS.out.2.2.1).lt,HS.out.2.2.2,hq,(by have:=HS.out.1.size;have:=HK2.out;omega)⟩
        clear hq hn9 hb
        refine hK.out _ _ (HV5.out _ HS9.out.1) (fun hH=> ?_)
        clear hK K hH HS hV
        try simp only[rgS]
        clear w
        revert HS9
        revert n3
        revert g7
        revert w9
        exact k4.out
      ·intro w g7 n3 HS
       have hV:=HV5.out _ HS.out.1
       refine rgO 8 (fun K hK=> ?_)
       go_simp
       have hcall:=(zej n3 (n3+1) (n3+2) (W.heap.size+2) 72 #[] y0 y1 y2 yA yp yc yK yq yd nSub P3.2 (askU j nSub) w (HS.out.2.2.2.2.1) HS.out.2.1 (HS.out.2.2.2.2.2) (by omega) (by omega) eU (fun _ W9 hW9=>by rw[Array.append_empty];exact HU.out W9 nSub ⟨_,HBW.out _ HS.out.1,hW9⟩))
       refine hcall.mono ?_
       clear hcall
       rintro e w9 ⟨rfl,hk9,hg9⟩
       rw[←HP4.out]at hk9⊢
       have HS9:Hid (w2.grownBy w9 (some (W.heap.size+2))∧Blk w9 (W.heap.size+2) 46 [errV P4.2]∧Blk w9 g7 42 zeros7∧w2.heap.size≤g7):=Lib.hid ⟨HS.out.1.trans hg9,hk9,(HS.out.2.2.1).grown hg9 (by intro e;injection e with e;have:=HS.out.2.2.2.1;have:=HK2.out;omega),HS.out.2.2.2.1⟩
       clear hk9 hg9
       refine hK.out _ _ (HV5.out _ HS9.out.1) (fun hH=> ?_)
       clear hK K hH HS hV
       try simp only[rgS]
       clear w
       revert HS9
       revert n3
       revert g7
       revert w9
       exact k5.out
     ·intro w g7 n3 HS
      have hV:=HV5.out _ HS.out.1
      refine rgO 10 (fun K hK=> ?_)
      go_simp
      (with_reducible refine(askingL_n (W.heap.size+2) 92 w).mono ?_)
      rintro e w9 ⟨n4,rfl,hq,hn9,hb⟩
      have HS9:Hid (w2.grownBy w9 (some (W.heap.size+2))∧Blk w9 (W.heap.size+2) 46 [errV P4.2]∧Blk w9 g7 42 zeros7∧w2.heap.size≤g7∧HeldQ n4 (n4+1) (n4+2) (W.heap.size+2) y0 y1 y2 yA yp yc yK yq yd 92 #[] w9∧(W.heap.size+2)<n4):=Lib.hid ⟨HS.out.1.trans ((zad hb none).but _),(HS.out.2.1).below hb (HS.out.2.1).lt,(HS.out.2.2.1).below hb (HS.out.2.2.1).lt,HS.out.2.2.2,hq,(by have:=HS.out.1.size;have:=HK2.out;omega)⟩
      clear hq hn9 hb
      refine hK.out _ _ (HV5.out _ HS9.out.1) (fun hH=> ?_)
      clear hK K hH HS hV
      try simp only[rgS]
      clear w
      revert HS9
      revert n4
      revert n3
      revert g7
      revert w9
      exact k6.out
    ·intro w g7 n3 n4 HS
     have hV:=HV5.out _ HS.out.1
     refine rgO 11 (fun K hK=> ?_)
     go_simp
     have hcall:=(askL_any n4 (n4+1) (n4+2) (W.heap.size+2) 92 #[] y0 y1 y2 yA yp yc yK yq yd nScope P4.2 (askS j nScope) w (HS.out.2.2.2.2.1) HS.out.2.1 (HS.out.2.2.2.2.2) (by omega) (by omega) eS (fun _ W9 hW9=>by rw[Array.append_empty];exact HSC.out W9 nScope ⟨_,HBW.out _ HS.out.1,hW9⟩))
     refine hcall.mono ?_
     clear hcall
     rintro e w9 ⟨v9,rfl,hsl,hk9,hg9⟩
     rw[←HP5.out]at hsl hk9
     obtain⟨A,c,rfl,hcc,hll,hoo⟩:=hsl
     have HS9:Hid (w2.grownBy w9 (some (W.heap.size+2))∧Blk w9 (W.heap.size+2) 46 [errV P5.2]∧Blk w9 g7 42 zeros7∧w2.heap.size≤g7∧SliceN w9 (.slice A P5.1.length c) P5.1):=Lib.hid ⟨HS.out.1.trans hg9,hk9,(HS.out.2.2.1).grown hg9 (by intro e;injection e with e;have:=HS.out.2.2.2.1;have:=HK2.out;omega),HS.out.2.2.2.1,⟨A,c,rfl,hcc,hll,hoo⟩⟩
     clear hk9 hg9 hcc hll hoo
     refine hK.out _ _ (HV5.out _ HS9.out.1) (fun hH=> ?_)
     clear hK K hH HS hV
     try simp only[rgS]
     clear w
     revert HS9
     revert c
     revert A
     revert n4
     revert n3
     revert g7
     revert w9
     exact k7.out
   ·intro w g7 n3 n4 A c HS
    have hV:=HV5.out _ HS.out.1
    refine rgO 13 (fun K hK=> ?_)
    go_simp
    have hcall:=(zjf n2 (n2+1) (n2+2) (W.heap.size+2) 36 #[] y0 y1 y2 yA yp yc yK yq yd nIat P5.2 (askI j nIat) w (HQ2.out.grown HS.out.1 HN1.out.2 (by omega) (by omega)) HS.out.2.1 HN1.out.2 (by omega) (by omega) eI (fun _ W9 hW9=>by rw[Array.append_empty];exact HI.out W9 nIat ⟨_,HBW.out _ HS.out.1,hW9⟩))
    refine hcall.mono ?_
    clear hcall
    rintro e w9 ⟨rfl,hk9,hg9⟩
    rw[←HP6.out]at hk9⊢
    have HS9:Hid (w2.grownBy w9 (some (W.heap.size+2))∧Blk w9 (W.heap.size+2) 46 [errV P6.2]∧Blk w9 g7 42 zeros7∧w2.heap.size≤g7∧SliceN w9 (.slice A P5.1.length c) P5.1):=Lib.hid ⟨HS.out.1.trans hg9,hk9,(HS.out.2.2.1).grown hg9 (by intro e;injection e with e;have:=HS.out.2.2.2.1;have:=HK2.out;omega),HS.out.2.2.2.1,(HS.out.2.2.2.2).grownC HS.out.2.1 (fun i x h=>absurd h (zjd _ i x)) hg9⟩
    clear hk9 hg9
    refine hK.out _ _ (HV5.out _ HS9.out.1) (fun hH=> ?_)
    clear hK K hH HS hV
    try simp only[rgS]
    clear w
    revert HS9
    revert c
    revert A
    revert n4
    revert n3
    revert g7
    revert w9
    exact k8.out
  ·intro w g7 n3 n4 A c HS
   have hV:=HV5.out _ HS.out.1
   refine rgO 15 (fun K hK=> ?_)
   go_simp
   have hcall:=(zjf n2 (n2+1) (n2+2) (W.heap.size+2) 36 #[] y0 y1 y2 yA yp yc yK yq yd nExp P6.2 (askI j nExp) w (HQ2.out.grown HS.out.1 HN1.out.2 (by omega) (by omega)) HS.out.2.1 HN1.out.2 (by omega) (by omega) eI (fun _ W9 hW9=>by rw[Array.append_empty];exact HI.out W9 nExp ⟨_,HBW.out _ HS.out.1,hW9⟩))
   refine hcall.mono ?_
   clear hcall
   rintro e w9 ⟨rfl,hk9,hg9⟩
   rw[←HP7.out]at hk9⊢
   have HS9:Hid (w2.grownBy w9 (some (W.heap.size+2))∧Blk w9 (W.heap.size+2) 46 [errV P7.2]∧Blk w9 g7 42 zeros7∧w2.heap.size≤g7∧SliceN w9 (.slice A P5.1.length c) P5.1):=Lib.hid ⟨HS.out.1.trans hg9,hk9,(HS.out.2.2.1).grown hg9 (by intro e;injection e with e;have:=HS.out.2.2.2.1;have:=HK2.out;omega),HS.out.2.2.2.1,(HS.out.2.2.2.2).grownC HS.out.2.1 (fun i x h=>absurd h (zjd _ i x)) hg9⟩
   clear hk9 hg9
   refine hK.out _ _ (HV5.out _ HS9.out.1) (fun hH=> ?_)
   clear hK K hH HS hV
   try simp only[rgS]
   have hH:=HV5.out _ HS9.out.1
   refine rgT 16 ?_
   try simp only[rgS]
   clear hH
   clear w
   revert HS9
   revert c
   revert A
   revert n4
   revert n3
   revert g7
   revert w9
   exact k9.out
 ·intro w g7 n3 n4 A c HS
  have hV:=HV5.out _ HS.out.1
  refine rgO 18 (fun K hK=> ?_)
  rw[if_pos (by kernel_rfl)]
  refine wp_store_row 42 (.tmp 7) (.tmp 28) rfl g7 0 [.string P1.1,.string P2.1,.string P3.1,.string P4.1,.slice A P5.1.length c,.int .i64 P6.1,.int .i64 P7.1] rfl rfl _ _ HS.out.2.2.1 (by simp[zeros7]) zdQ (by intro v hv;simp at hv;rcases hv with rfl|rfl|rfl|rfl|rfl|rfl|rfl<;>rfl) ?_
  intro w5 hb5 hg5
  rw[zaW _ _ (by simp[zeros7])]at hb5
  have hg7:W.heap.size+2<g7:=Nat.lt_of_lt_of_le HK2.out HS.out.2.2.2.1
  have hk5:Blk w5 (W.heap.size+2) 46 [errV P7.2]:=HS.out.2.1.grown hg5 (by intro e;injection e with e;omega)
  have HSL5:Hid (SliceN w5 (.slice A P5.1.length c) P5.1):=Lib.hid (HS.out.2.2.2.2.grownC HS.out.2.2.1 (fun i x h hx=>HNE.out x hx (zen i x h)) hg5)
  have HBW5:=Lib.hid ((HBW.out _ HS.out.1).grown hg5 (HBW.out _ HS.out.1).size (by intro b e;injection e with e;omega))
  have hbr5:Blk w5 (W.heap.size+1) 42 zeros7:=(HBR.out _ HS.out.1).grown hg5 (by intro e;injection e with e;omega)
  have hV5:w5.cell? ⟨W.heap.size,0,none⟩=some (.int .i64 y0)∧w5.cell? ⟨W.heap.size,1,none⟩=some (.int .i64 y1)∧w5.cell? ⟨W.heap.size,2,none⟩=some (.string y2)∧w5.cell? ⟨W.heap.size,3,none⟩=some (.slice yA yp yc)∧w5.cell? ⟨W.heap.size,4,none⟩=some (.slice yK yq yd):=by
   obtain⟨q0,q1,q2,q3,q4⟩:=hV
   exact⟨zaZ q0 hg5 (by intro e;injection e with e;omega),zaZ q1 hg5 (by intro e;injection e with e;omega),zaZ q2 hg5 (by intro e;injection e with e;omega),zaZ q3 hg5 (by intro e;injection e with e;omega),zaZ q4 hg5 (by intro e;injection e with e;omega)⟩
  refine hK.out _ _ hV5 (fun hH=> ?_)
  have HB5:=Lib.hid hb5
  have kc:w5.cell? ⟨W.heap.size+2,0,none⟩=some (errV P7.2):=hk5.cell 0
  have HBR5:=Lib.hid hbr5
  obtain⟨q0,q1,q2,q3,q4⟩:=hV5
  have HG7:=Lib.hid hg7
  clear hK K hH HS hV hb5 hg5 hk5 hbr5 w hg7
  try simp only[rgS]
  refine wpAnyH_done (by kernel_rfl) ?_ _
  by_cases h0:P7.2=0
  case neg=>
   have HRN:Hid (R=none):=Lib.hid (HTK.out.2.1 h0)
   have HRF:=Lib.hid (refuse_num P7.2 h0)
   rw[zkn h0]at kc
   clear h0
   go_wp2_with fail
   refine(HRF.out _).mono ?_
   rintro e w6 ⟨d,x,rfl,hce,hb⟩
   have HCE:=Lib.hid hce
   have hbr6:=HBR5.out.below hb HBR5.out.lt
   have HBR6:=Lib.hid hbr6
   have HBW6:=Lib.hid (HBW5.out.trans (hb.mono HBW5.out.size))
   clear hce hb kc q0 q1 q2 q3 q4
   go_wp2_with(refine zaQ rfl none rfl _ (.tmp 2) (.tmp 31) rfl (W.heap.size+1) 0 [.string ⟨#[]⟩,.string ⟨#[]⟩,.string ⟨#[]⟩,.string ⟨#[]⟩,.slice none 0 0,.int .i64 0,.int .i64 0] rfl rfl _ _ hbr6 (by simp[zeros7]) zdQ (by intro v hv;simp[zeros7]at hv;rcases hv with rfl|rfl|rfl<;>rfl) ?_;intro w7 hb9 hgr;rw[zaW _ _ (by simp[zeros7])]at hb9;have HB9:=Lib.hid hb9;have HG9:=Lib.hid hgr;clear hgr hb9;try go_frame)
   (try simp only[Exit.inBlock,Exit.then])
   have r0:=HB9.out.cell 0
   have r1:=HB9.out.cell 1
   have r2:=HB9.out.cell 2
   have r3:=HB9.out.cell 3
   have r4:=HB9.out.cell 4
   have r5:=HB9.out.cell 5
   have r6:=HB9.out.cell 6
   refine bodyPost_ret (v:= .tuple #[.agg #[.string ⟨#[]⟩,.string ⟨#[]⟩,.string ⟨#[]⟩,.string ⟨#[]⟩,.slice none 0 0,.int .i64 0,.int .i64 0],.iface d x]) ?_ rfl (.inr ⟨HRN.out,d,x,rfl,HCE.out.grownC HBR6.out (by intro d x h;simp[zeros7]at h) HG9.out,HBW6.out.grown HG9.out HBW6.out.size (by intro b e;injection e with e;omega)⟩)
   rw[results_cell_tmp rfl];go_simp
  case pos=>
   have HRP:=Lib.hid (HTK.out.1 h0)
   rw[h0,zeV]at kc
   clear h0
   have hbn:=zaf w5 (.cells #[.string nCid,.string nExp,.string nIat,.string nIss,.string nJti,.string nScope,.string nSub] 9)
   have hsl:SliceN (w5.alloc (.cells #[.string nCid,.string nExp,.string nIat,.string nIss,.string nJti,.string nScope,.string nSub] 9)) (.slice (some ⟨w5.heap.size,0,none⟩) 7 7) allNames:=by
    refine⟨_,7,rfl,by decide,fun _=>⟨_,0,rfl,by simp,fun i x hi=> ?_⟩,fun x hx=> ?_⟩
    ·rw[Nat.zero_add,World.cell?_alloc_new]
     match i,hi with
     |0,hi=>injection hi with hi;subst hi;rfl
     |1,hi=>injection hi with hi;subst hi;rfl
     |2,hi=>injection hi with hi;subst hi;rfl
     |3,hi=>injection hi with hi;subst hi;rfl
     |4,hi=>injection hi with hi;subst hi;rfl
     |5,hi=>injection hi with hi;subst hi;rfl
     |6,hi=>injection hi with hi;subst hi;rfl
    ·simp[allNames]at hx;rcases hx with rfl|rfl|rfl|rfl|rfl|rfl|rfl<;>decide
   have hkl:LiesN w5 yK j.k:=HKL.out.2.1.below HBW5.out
   have HWI:=Lib.hid (within_lies yK yd _ j.k allNames _ (hkl.below hbn) HKL.out.2.2 hsl (by have:=HKL.out.1.2;omega) (by decide))
   rw[←HKL.out.1.1]at HWI
   obtain⟨wi,hwi⟩: ∃b,b=j.k.all (hasN allNames):=⟨_,rfl⟩
   rw[←hwi]at HWI HRP
   have HBN:=Lib.hid hbn
   clear hbn hsl hkl hwi
   go_wp2_with fail
   refine HWI.out.mono ?_
   rintro e w6 ⟨rfl,hb⟩
   have hb6:=HBN.out.trans (hb.mono HBN.out.size)
   have hbr6:=HBR5.out.below hb6 HBR5.out.lt
   have HBR6:=Lib.hid hbr6
   have hb7:=HB5.out.below hb6 HB5.out.lt
   have HBW6:=Lib.hid (HBW5.out.trans (hb6.mono HBW5.out.size))
   have HSL6:=Lib.hid (HSL5.out.below hb6)
   clear hb hb6 kc q0 q1 q2 q3 q4 HWI
   cases wi with
   |false=>
    have HRN:Hid (R=none):=Lib.hid (HRP.out.trans (if_neg (by decide)))
    go_wp2_with(refine zaQ rfl none rfl _ (.tmp 2) (.tmp 39) rfl (W.heap.size+1) 0 [.string ⟨#[]⟩,.string ⟨#[]⟩,.string ⟨#[]⟩,.string ⟨#[]⟩,.slice none 0 0,.int .i64 0,.int .i64 0] rfl rfl _ _ hbr6 (by simp[zeros7]) zdQ (by intro v hv;simp[zeros7]at hv;rcases hv with rfl|rfl|rfl<;>rfl) ?_;intro w7 hb9 hgr;rw[zaW _ _ (by simp[zeros7])]at hb9;have HB9:=Lib.hid hb9;have HG9:=Lib.hid hgr;clear hgr hb9;try go_frame)
    (try simp only[Exit.inBlock,Exit.then])
    have r0:=HB9.out.cell 0
    have r1:=HB9.out.cell 1
    have r2:=HB9.out.cell 2
    have r3:=HB9.out.cell 3
    have r4:=HB9.out.cell 4
    have r5:=HB9.out.cell 5
    have r6:=HB9.out.cell 6
    refine bodyPost_ret (v:= .tuple #[.agg #[.string ⟨#[]⟩,.string ⟨#[]⟩,.string ⟨#[]⟩,.string ⟨#[]⟩,.slice none 0 0,.int .i64 0,.int .i64 0],.iface 95 (.int .i64 90)]) ?_ rfl (.inr ⟨HRN.out,_,_,rfl,.inr (.inl ⟨by decide,rfl⟩),HBW6.out.grown HG9.out HBW6.out.size (by intro b e;injection e with e;omega)⟩)
    rw[results_cell_tmp rfl];go_simp
   |true=>
    have HRN:Hid (R=some ⟨P1.1,P2.1,P3.1,P4.1,P5.1,P6.1,P7.1⟩):=Lib.hid (HRP.out.trans (if_pos rfl))
    have s0:=hb7.cell 0
    have s1:=hb7.cell 1
    have s2:=hb7.cell 2
    have s3:=hb7.cell 3
    have s4:=hb7.cell 4
    have s5:=hb7.cell 5
    have s6:=hb7.cell 6
    clear hb7
    go_wp2_with(refine zaQ rfl none rfl _ (.tmp 2) (.tmp 41) rfl (W.heap.size+1) 0 [.string P1.1,.string P2.1,.string P3.1,.string P4.1,.slice A P5.1.length c,.int .i64 P6.1,.int .i64 P7.1] rfl rfl _ _ hbr6 (by simp[zeros7]) zdQ (by intro v hv;simp at hv;rcases hv with rfl|rfl|rfl|rfl|rfl|rfl|rfl<;>rfl) ?_;intro w7 hb9 hgr;rw[zaW _ _ (by simp[zeros7])]at hb9;have HB9:=Lib.hid hb9;have HG9:=Lib.hid hgr;clear hgr hb9;try go_frame)
    (try simp only[Exit.inBlock,Exit.then])
    have r0:=HB9.out.cell 0
    have r1:=HB9.out.cell 1
    have r2:=HB9.out.cell 2
    have r3:=HB9.out.cell 3
    have r4:=HB9.out.cell 4
    have r5:=HB9.out.cell 5
    have r6:=HB9.out.cell 6
    refine bodyPost_ret (v:= .tuple #[.agg #[.string P1.1,.string P2.1,.string P3.1,.string P4.1,.slice A P5.1.length c,.int .i64 P6.1,.int .i64 P7.1],.nilIface]) ?_ rfl (.inl ⟨_,A,c,HRN.out,rfl,HSL6.out.grownC HBR6.out (fun i x h hx=>HNE.out x hx (zen i x h)) HG9.out,HNE.out,HBW6.out.grown HG9.out HBW6.out.size (by intro b e;injection e with e;omega)⟩)
    rw[results_cell_tmp rfl];go_simp
structure MC where
 nm:ByteArray
 a0:Value
 a1:Value
 a2:Value
 a3:Value
 a4:Value
instance:Inhabited MC:=⟨⟨⟨#[]⟩,.int .i64 0,.int .i64 0,.int .i64 0,.int .i64 0,.int .i64 0⟩⟩
def encM (x:MC):List Value:=[.string x.nm,x.a0,x.a1,x.a2,x.a3,x.a4]
theorem pred_name (t:ByteArray) (B:Nat) (w:World) (hB:B<w.heap.size) (hcell:w.cell? ⟨B,0,none⟩=some (.string t)):
  PredBelow Tryz.prog 194 #[.pointer (some ⟨B,0,none⟩)] (fun x=> .agg (encM x).toArray) (fun x=>x.nm.toList==t.toList) w:=fun W x hb=>by
 have hc:W.cell? ⟨B,0,none⟩=some (.string t):=(hb.cell (p:=⟨B,0,none⟩) hB).trans hcell
 have hBW:B<W.heap.size:=Nat.lt_of_lt_of_le hB hb.size
 have hne:B≠W.heap.size:=by omega
 show Calls Tryz.prog 194 #[.agg #[.string x.nm,x.a0,x.a1,x.a2,x.a3,x.a4],.pointer (some ⟨B,0,none⟩)] W _
 go_enter Tryz.func194,Tryz.ntmps194
 go_wp2
 all_goals(go_ret;exact⟨by simp_all,hb.alloc hb.size _⟩)
theorem indexM_nil (g:Nat) (lb:Array Value) (c:Nat) (w:World):Calls Tryz.prog 210 #[.slice none 0 c,.func (.func g) #[] lb] w fun e w'=>e= .returned (.int .i64 (-1))∧w=w':=by
 go_enter Tryz.func210,Tryz.ntmps210
 go_wp2
 go_loopw[8] (fun v wr=>v= .int .i64 0∧wr=w) (fun _ _=>0)
 case atStart=>exact⟨rfl,rfl⟩
 case round=>
  obtain⟨rfl,rfl⟩:=hrel
  go_wp2
  go_ret
  exact⟨rfl,rfl⟩
theorem zoJ (g:Nat) (lb:Array Value) (c:Nat) (w:World):Calls Tryz.prog 193 #[.slice none 0 c,.func (.func g) #[] lb] w fun e w'=>e= .returned (.bool false)∧w=w':=by
 have HI:=Lib.hid (indexM_nil g lb c)
 go_enter Tryz.func193,Tryz.ntmps193
 go_wp2_with(go_at_call 210;refine(HI.out _).mono ?_;rintro e w' ⟨rfl,rfl⟩)
 go_ret
 exact⟨rfl,rfl⟩
def RowM (w:World) (v:Value) (zs:List MC):Prop:=(v= .slice none 0 0∧zs=[])∨ ∃g c,v= .slice (some ⟨g,0,none⟩) zs.length c∧g<w.heap.size∧ ∀j,j<zs.length→ ∀i u,(encM zs[j]!)[i]? =some u→w.cell? ⟨g,0+j*6+i,none⟩=some u
theorem zoK (v:Value) (zs:List MC) (hz:zs.length≤1000000) (t:ByteArray) (B:Nat) (w:World) (hB:B<w.heap.size) (hcell:w.cell? ⟨B,0,none⟩=some (.string t)) (h:RowM w v zs):
  Calls Tryz.prog 193 #[v,.func (.func 194) #[] #[.pointer (some ⟨B,0,none⟩)]] w fun e w'=>e= .returned (.bool (zs.any fun x=>x.nm.toList==t.toList))∧Below w.heap.size w w':=by
 rcases h with⟨rfl,rfl⟩|⟨g,c,rfl,hg,hc⟩
 ·refine(zoJ _ _ _ w).mono ?_
  rintro e w' ⟨rfl,rfl⟩
  exact⟨rfl,Below.refl _ _⟩
 ·have eg: ∀args w,(callFunc 194 args).run Tryz.prog w= .ok (.enter 194 args) w:=enters_of Tryz.func194 (by kernel_rfl) rfl
  have:=AnyQ.slices_ContainsFunc Tryz.containsM 6 Tryz.isAgg30 Tryz.sizeOf30 encM (fun _=>rfl) (fun x=>x.nm.toList==t.toList) 194 #[.pointer (some ⟨B,0,none⟩)] eg g 0 zs.length c zs w (pred_name t B w hB hcell) (Nat.le_refl _) (by omega) hg hc
  rw[List.take_length]at this
  exact this
theorem RowM.moved {w w2:World} {v:Value} {zs:List MC} {rb:Nat} (h:RowM w v zs) (hg:w.grownBy w2 (some rb)) (hne:v.ownBlock≠some rb):RowM w2 v zs:=by
 rcases h with h|⟨g,c,rfl,hlt,hc⟩
 ·exact .inl h
 ·refine .inr ⟨g,c,rfl,Nat.lt_of_lt_of_le hlt hg.size,fun j hj i u hu=> ?_⟩
  rw[←hc j hj i u hu]
  unfold World.cell?
  rw[hg.block g hlt (by intro e;injection e with e;exact hne (by rw[e];rfl))]
def ziw (l:List Int) (i:Nat) (ks:List ByteArray):(Nat×Int)⊕(ByteArray×Nat):=
 if(zah l (zaY l i)).2.2≠0 then .inl ((zah l (zaY l i)).2.1,(zah l (zaY l i)).2.2)
 else if hasK ks (toS (zah l (zaY l i)).1)=true then .inl (zaY l i,52)
 else .inr (toS (zah l (zaY l i)).1,(zah l (zaY l i)).2.1)
def NameTells (w:World) (rb:Nat) (s:ByteArray) (n:Int) (r:(Nat×Int)⊕(ByteArray×Nat)) (e:Ending) (w':World):Prop:=
 match r with
 | .inl (p,er)=>zii w rb (p:Nat) er e w'
 | .inr (t,j)=>e= .returned (.string t)∧zch w w' rb s (j:Nat) n
theorem any_has (zs:List MC) (t:ByteArray):(zs.any fun x=>x.nm.toList==t.toList)=hasK (zs.map MC.nm) t:=by
 unfold hasK
 rw[List.any_map]
 congr 1
 funext x
 simp only[Function.comp_apply]
 by_cases h:x.nm=t
 ·rw[beq_str h,decide_eq_true h]
 ·rw[zig h,decide_eq_false h]
theorem name_any (rb:Nat) (s:ByteArray) (i:Nat) (n:Int) (w:World) (v:Value) (zs:List MC) (h:Rdr w rb s i n) (hg:GW w rb) (hi:i≤s.size) (hs:s.size≤100000) (hz:zs.length≤1000000) (hrow:RowM w v zs) (hne:v.ownBlock≠some rb):
  Calls Tryz.prog 171 #[.pointer (some ⟨rb,0,none⟩),v] w (NameTells w rb s n (ziw (strL s) i (zs.map MC.nm))):=by
 have hrlt:=h.lt
 obtain⟨r,hr⟩: ∃r,r=ziw (strL s) i (zs.map MC.nm):=⟨_,rfl⟩
 have hsk:=zcz _ (strL s) i (Nat.le_refl _) (by rw[zaX];exact hi)
 rw[zaX]at hsk
 unfold ziw at hr
 have HB:=Lib.hid (zbc rb s i n w h hi (by omega))
 obtain⟨p,hp⟩: ∃p,p=zaY (strL s) i:=⟨_,rfl⟩
 rw[←hp]at HB hsk hr
 have hps:=hsk.2
 have HQ:=Lib.hid (fun(W:World) (hr:Rdr W rb s p n) (hg:GW W rb)=>zls rb s p n W hr hg hps hs)
 obtain⟨Q,hQ⟩: ∃Q,Q=zah (strL s) p:=⟨_,rfl⟩
 rw[←hQ]at HQ hr
 rw[show ziw (strL s) i (zs.map MC.nm)=r by rw[hr,hQ,hp];rfl]
 rw[←any_has]at hr
 have HR:=Lib.hid hr
 have HG:=Lib.hid hg
 have HROW:=Lib.hid hrow
 have HNE:=Lib.hid hne
 clear h hg hsk hr hp hQ hrow hne
 go_enter Tryz.func171,Tryz.ntmps171
 go_wp2_with(first|(go_at_call 112;(with_reducible refine HB.out.mono ?_);rintro e w1 ⟨rfl,hg1,hr1⟩;have HG1:=Lib.hid hg1;have HR1:=Lib.hid hr1;obtain⟨⟨c0,c1,c2⟩,f0,f1,f2⟩:=Rdr.cells hr1;clear hg1 hr1)|fail)
 refine(HQ.out _ HR1.out (HG.out.grown HG1.out)).mono ?_
 rintro e w2 (⟨he,rfl,hm⟩|⟨he,rfl,hg2⟩)
 ·have HE:Hid (r=if(zs.any fun x=>x.nm.toList==(toS Q.1).toList)=true then .inl (p,52)else .inr (toS Q.1,Q.2.1)):=Lib.hid (HR.out.trans (if_neg (fun h=>h he)))
  obtain⟨T,hT⟩: ∃T,T=toS Q.1:=⟨_,rfl⟩
  obtain⟨j,hj⟩: ∃j,j=Q.2.1:=⟨_,rfl⟩
  rw[←hT,←hj]at HE
  rw[←hT]
  rw[←hj]at hm
  have HG2:=Lib.hid (HG1.out.trans hm.1)
  have HR2:=Lib.hid hm.2
  clear hm he hT hj
  go_wp2_with fail
  have ga:w2.grownBy (w2.alloc (.cells #[.string T] 9)) none:=World.grownBy_alloc _ _ _
  have hca:(w2.alloc (.cells #[.string T] 9)).cell? ⟨w2.heap.size,0,none⟩=some (.string T):=Blk.cell (zcb w2 rfl [.string T] 9) 0
  have HCA:=Lib.hid hca
  have HSZ:Hid (w2.heap.size<(w2.alloc (.cells #[.string T] 9)).heap.size):=Lib.hid (by simp)
  have HCC:=Lib.hid (zoK v zs hz T w2.heap.size _ HSZ.out hca (HROW.out.moved (HG2.out.trans (ga.but _)) HNE.out))
  have HGA:=Lib.hid (HG2.out.trans (ga.but (some rb)))
  have HRA:Hid (Rdr (w2.alloc (.cells #[.string T] 9)) rb s j n):=Lib.hid (Blk.grownN HR2.out ga)
  obtain⟨b,hb⟩: ∃b,b=(zs.any fun x=>x.nm.toList==T.toList):=⟨_,rfl⟩
  rw[←hb]at HE HCC
  clear ga hca hb
  refine HCC.out.mono ?_
  rintro e w3 ⟨rfl,hb3⟩
  have HB3:=Lib.hid hb3
  have hc3:w3.cell? ⟨w2.heap.size,0,none⟩=some (.string T):=(hb3.cell (p:=⟨w2.heap.size,0,none⟩) HSZ.out).trans HCA.out
  have HG3:=Lib.hid (HGA.out.trans (zad hb3 (some rb)))
  clear hb3
  cases b with
  |true=>
   have e1:r= .inl (p,52):=HE.out
   go_wp2_with(go_at_call 113;(with_reducible refine(zbb _ _ _).mono ?_);rintro e w' ⟨rfl,rfl⟩)
   exact⟨rfl,rfl,HG3.out⟩
  |false=>
   have e1:r= .inr (T,j):=HE.out
   go_wp2
   go_ret
   rw[e1]
   exact⟨rfl,HG3.out,Blk.below HRA.out HB3.out (HRA.out.lt)⟩
 ·have e1:r= .inl (Q.2.1,Q.2.2):=HR.out.trans (if_pos he)
  go_wp2
  exact⟨rfl,rfl,HG1.out.trans hg2⟩
def FlatM (W:World) (S:Nat→Prop):List (ByteArray×J)→List MC→Prop
 |[],zs=>zs=[]
 |m::r,zs=> ∃z zs',zs=z::zs'∧z.nm=m.1∧m.1.size≤9223372036854775807∧RepS W S m.2 (.agg #[z.a0,z.a1,z.a2,z.a3,z.a4])∧FlatM W S r zs'
theorem FlatM.length {S:Nat→Prop} {W:World}: ∀{ms:List (ByteArray×J)} {zs:List MC},FlatM W S ms zs→zs.length=ms.length
 |[],zs,h=>by rw[FlatM]at h;rw[h];rfl
 |m::r,zs,h=>by obtain⟨z,zs',rfl,_,_,_,h⟩:=h;simp[h.length]
theorem FlatM.names {S:Nat→Prop} {W:World}: ∀{ms:List (ByteArray×J)} {zs:List MC},FlatM W S ms zs→zs.map MC.nm=ms.map Prod.fst
 |[],zs,h=>by rw[FlatM]at h;rw[h];rfl
 |m::r,zs,h=>by obtain⟨z,zs',rfl,e,_,_,h⟩:=h;simp[h.names,e]
theorem FlatM.keeps {S T:Nat→Prop} {W W':World} (hk:Keeps S W W') (hT: ∀b,S b→b<W.heap.size→T b): ∀{ms:List (ByteArray×J)} {zs:List MC},FlatM W S ms zs→FlatM W' T ms zs
 |[],zs,h=>h
 |m::r,zs,h=>by obtain⟨z,zs',rfl,e,hs,hx,h⟩:=h;exact⟨z,zs',rfl,e,hs,RepS.keeps hk hT _ _ hx,h.keeps hk hT⟩
theorem FlatM.snoc {S:Nat→Prop} {W:World} {t:ByteArray} {x:J} {a0 a1 a2 a3 a4:Value} (ht:t.size≤9223372036854775807) (hx:RepS W S x (.agg #[a0,a1,a2,a3,a4])): ∀{ms:List (ByteArray×J)} {zs:List MC},FlatM W S ms zs→FlatM W S (ms++[(t,x)]) (zs++[⟨t,a0,a1,a2,a3,a4⟩])
 |[],zs,h=>by rw[FlatM]at h;subst h;exact⟨_,[],rfl,rfl,ht,hx,rfl⟩
 |m::r,zs,h=>by obtain⟨z,zs',rfl,e,hs,hx',h⟩:=h;exact⟨z,_,rfl,e,hs,hx',h.snoc ht hx⟩
def zdz (zs:List MC):List Value:=zs.flatMap encM
theorem flatM_length (zs:List MC):(zdz zs).length=zs.length*6:=by
 unfold zdz
 induction zs with
 |nil=>rfl
 |cons z r ih=>rw[List.flatMap_cons,List.length_append,ih];simp[encM];omega
theorem zoQ: ∀(zs:List MC) (j:Nat),j<zs.length→ ∀i u,(encM zs[j]!)[i]? =some u→(zdz zs)[j*6+i]? =some u
 |[],j,h,_,_,_=>by simp at h
 |z::r,0,_,i,u,hu=>by
  have hu:(encM z)[i]? =some u:=hu
  have hi:i<(encM z).length:=by
   by_cases h:i<(encM z).length
   ·exact h
   ·rw[List.getElem?_eq_none (by omega)]at hu;cases hu
  show(encM z++zdz r)[0*6+i]? =some u
  rw[Nat.zero_mul,Nat.zero_add,List.getElem?_append_left hi,hu]
 |z::r,j+1,hj,i,u,hu=>by
  have hj:j<r.length:=by simpa using hj
  have hu:(encM r[j]!)[i]? =some u:=by
   rw[←hu];congr 2
  show(encM z++zdz r)[(j+1)*6+i]? =some u
  have h6:(encM z).length=6:=rfl
  rw[List.getElem?_append_right (by omega),h6,show(j+1)*6+i-6=j*6+i by omega]
  exact zoQ r j hj i u hu
theorem own_row {w:World} {base n:Nat} {v:Value} {zs:List MC} (h:w.ownsRow base 30 6 v n (zdz zs)) (hn:zs.length=n):RowM w v zs:=by
 rcases h.2 with⟨h',h0⟩|⟨g,cap,cur,h',_⟩
 ·exact .inl ⟨h',List.eq_nil_of_length_eq_zero (by omega)⟩
 ·subst h'
  refine .inr ⟨g,cap,by rw[hn],(h.lt g rfl).2,fun j hj i u hu=> ?_⟩
  have:=h.cells rfl _ _ (zoQ zs j hj i u hu)
  rwa [Addr.add_mid,show 0+(j*6+i)=0+j*6+i by omega]at this
structure OInv (W wr:World) (rb:Nat) (s:ByteArray) (dep:Int) (ms:List (ByteArray×J)) (zs:List MC) (vM:Value) (i n:Int):Prop where
 c2:Blk wr W.heap.size 197 [.pointer (some ⟨rb,0,none⟩)]
 c3:Blk wr (W.heap.size+1) 3 [.int .i64 dep]
 c4:Blk wr (W.heap.size+2) 27 zeros5
 c5:Blk wr (W.heap.size+3) 25 [vM]
 own:wr.ownsRow (W.heap.size+4) 30 6 vM ms.length (zdz zs)
 flat:FlatM wr (fun b=>W.heap.size+4≤b∧vM.ownBlock≠some b) ms zs
 gr:W.grownBy wr (some rb)
 lt:rb<W.heap.size
 sz:W.heap.size+4≤wr.heap.size
 rdr:Rdr wr rb s i n
theorem OInv.row {W wr:World} {rb:Nat} {s:ByteArray} {dep:Int} {ms:List (ByteArray×J)} {zs:List MC} {vM:Value} {i n:Int} (h:OInv W wr rb s dep ms zs vM i n):RowM wr vM zs:=own_row h.own h.flat.length
theorem OInv.far {W wr:World} {rb:Nat} {s:ByteArray} {dep:Int} {ms:List (ByteArray×J)} {zs:List MC} {vM:Value} {i n:Int} (h:OInv W wr rb s dep ms zs vM i n):vM.ownBlock≠some rb:=fun e=>by have:=(h.own.lt rb e).1;have:=h.lt;omega
theorem OInv.moved {W wr w2:World} {rb:Nat} {s:ByteArray} {dep:Int} {ms:List (ByteArray×J)} {zs:List MC} {vM:Value} {i n j m:Int} (h:OInv W wr rb s dep ms zs vM i n) (hm:wr.grownBy w2 (some rb)) (hr:Rdr w2 rb s j m):OInv W w2 rb s dep ms zs vM j m:=by
 have lt:=h.lt
 have ne: ∀k,W.heap.size≤k→some k≠some rb:=fun k hk e=>by injection e with e;omega
 refine⟨h.c2.grown hm (ne _ (Nat.le_refl _)),h.c3.grown hm (ne _ (by omega)),h.c4.grown hm (ne _ (by omega)),h.c5.grown hm (ne _ (by omega)),h.own.kept hm ?_,?_,h.gr.trans hm,lt,Nat.le_trans h.sz hm.size,hr⟩
 ·cases hv:vM.ownBlock with
  |none=>exact .inl rfl
  |some g=>exact .inr (fun e=>by injection e with e;have:=(h.own.lt g hv).1;omega)
 ·exact h.flat.keeps ⟨hm.size,fun b hb hl=>hm.block b hl (ne b (by have:=hb.1;omega))⟩ (fun b hb _=>hb)
theorem OInv.add {W wr w4 w5:World} {rb:Nat} {s:ByteArray} {dep:Int} {ms:List (ByteArray×J)} {zs:List MC} {vM:Value} {i n j m:Int} {t:ByteArray} {x:J} {c0 c1 c2 c3 c4:Value} {g cap:Nat} (h:OInv W wr rb s dep ms zs vM i n) (h4:wr.grownBy w4 (some rb)) (hr:Rdr w4 rb s j m) (ht:t.size≤9223372036854775807)
  (hx:RepS w4 (fun b=>wr.heap.size≤b) x (.agg #[c0,c1,c2,c3,c4])) (hgr:w4.grownBy w5 vM.ownBlock) (hown:w5.ownsRow (W.heap.size+4) 30 6 (.slice (some ⟨g,0,none⟩) (ms.length+1) cap) (ms.length+1) (zdz zs++[.string t,c0,c1,c2,c3,c4])) (hat:vM.ownBlock=some g∨w4.heap.size≤g):
  OInv W (w5.setCell ⟨W.heap.size+3,0,none⟩ (.slice (some ⟨g,0,none⟩) (ms.length+1) cap)) rb s dep (ms++[(t,x)]) (zs++[⟨t,c0,c1,c2,c3,c4⟩]) (.slice (some ⟨g,0,none⟩) (ms.length+1) cap) j m:=by
 have hI:=h.moved h4 hr
 have g7:=zaV w5 (W.heap.size+3) 0 (.slice (some ⟨g,0,none⟩) (ms.length+1) cap)
 have lt:=h.lt
 have hgB:W.heap.size+4≤g:=(hown.lt g rfl).1
 have lL:=fun k hk=>(hI.own.lt k hk).1
 have s4:=hI.sz
 have keep: ∀k,k<w4.heap.size→k<W.heap.size+4→k≠W.heap.size+3→(w5.setCell ⟨W.heap.size+3,0,none⟩ (.slice (some ⟨g,0,none⟩) (ms.length+1) cap)).heap[k]? =w4.heap[k]? :=fun k hk h1 h2=>by
  rw[g7.block k (Nat.lt_of_lt_of_le hk hgr.size) (by intro e;injection e with e;exact h2 e)]
  exact hgr.block k hk (fun e=>by have:=lL k e.symm;omega)
 have key: ∀b,b<w4.heap.size→W.heap.size+4≤b→vM.ownBlock≠some b→(w5.setCell ⟨W.heap.size+3,0,none⟩ (.slice (some ⟨g,0,none⟩) (ms.length+1) cap)).heap[b]? =w4.heap[b]? :=fun b hk h1 h2=>by
  rw[g7.block b (Nat.lt_of_lt_of_le hk hgr.size) (by intro e;injection e with e;omega)]
  exact hgr.block b hk (fun e=>h2 e.symm)
 have hsz:w4.heap.size≤(w5.setCell ⟨W.heap.size+3,0,none⟩ (.slice (some ⟨g,0,none⟩) (ms.length+1) cap)).heap.size:=Nat.le_trans hgr.size g7.size
 refine⟨(keep _ (by omega) (by omega) (by omega)).trans hI.c2,(keep _ (by omega) (by omega) (by omega)).trans hI.c3,(keep _ (by omega) (by omega) (by omega)).trans hI.c4,?_,?_,?_,?_,lt,Nat.le_trans s4 hsz,(keep rb hr.lt (by omega) (by omega)).trans hr⟩
 ·have:Blk w5 (W.heap.size+3) 25 [vM]:=hI.c5.grown hgr (fun e=>by have:=lL _ e.symm;omega)
  exact this.setCell 0 _
 ·rw[List.length_append,show zdz (zs++[⟨t,c0,c1,c2,c3,c4⟩])=zdz zs++[.string t,c0,c1,c2,c3,c4]by simp[zdz,encM]]
  exact hown.kept g7 (.inr (by simp[Value.ownBlock];omega))
 ·refine FlatM.snoc ht ?_ ?_
  ·refine RepS.keeps (S:=fun b=>wr.heap.size≤b) ⟨hsz,fun b h1 h3=> ?_⟩ (fun b h1 h3=> ?_) _ _ hx
   ·replace h1:wr.heap.size≤b:=h1
    have hs:=h.sz
    exact key b h3 (by omega) (fun e=>by have:=(h.own.lt b e).2;omega)
   ·replace h1:wr.heap.size≤b:=h1
    have hs:=h.sz
    refine⟨by omega,fun e=> ?_⟩
    have e:g=b:=by simpa[Value.ownBlock]using e
    rcases hat with h'|h'
    ·have:=(h.own.lt g h').2;omega
    ·omega
  ·refine hI.flat.keeps ⟨hsz,fun b h1 h3=> ?_⟩ (fun b h1 h3=> ?_)
   ·exact key b h3 h1.1 h1.2
   ·refine⟨h1.1,fun e=> ?_⟩
    have e:g=b:=by simpa[Value.ownBlock]using e
    rcases hat with h'|h'
    ·exact h1.2 (by rw[h',e])
    ·omega
 ·refine⟨?_,?_,?_,Nat.le_trans hI.gr.size hsz,fun k hk hne=> ?_⟩
  ·exact(g7.os.trans hgr.os).trans hI.gr.os
  ·exact(g7.tape.trans hgr.tape).trans hI.gr.tape
  ·exact(g7.output.trans hgr.output).trans hI.gr.output
  ·exact(keep k (Nat.lt_of_lt_of_le hk hI.gr.size) (by omega) (by omega)).trans (hI.gr.block k hk hne)
theorem own_form6 {w:World} {base n:Nat} {e:TypeId} {v:Value} {xs:List Value} (h:w.ownsRow base e 6 v n xs):v= .slice none 0 0∨ ∃g cap,v= .slice (some ⟨g,0,none⟩) n cap:=by
 rcases h.2 with⟨h,_⟩|⟨g,cap,cur,h,_⟩
 ·exact .inl h
 ·exact .inr ⟨g,cap,h⟩
theorem zmc:(Tryz.prog.info? 30).map (fun i=>(i.zero,i.size,i.bytes))=some (some (.agg #[.string ⟨#[]⟩,.int .i64 0,.int .i64 0,.string ⟨#[]⟩,.slice none 0 0,.slice none 0 0]),6,96):=by kernel_rfl
def MembOk (W:World) (rb:Nat) (s:ByteArray) (dep:Int) (ms:List (ByteArray×J)) (t:ByteArray) (x:J) (p:Nat) (n:Int) (e:Ending) (w':World):Prop:=
 ∃zs vM q,e= .returned (.tuple #[])∧q≤s.size∧zaY (strL s) q=p∧OInv W w' rb s dep (ms++[(t,x)]) zs vM (q:Nat) n
end Go.Proofs.YtjfgmgkhinehaaaGreatDoor
