
import Derived.Test.YtceddodfddlncaaGreatDoorJb07
set_option maxRecDepth 100000
set_option maxHeartbeats 16000000
set_option linter.all false
namespace Go.Proofs.YtceddodfddlncaaGreatDoor
open Go Go.RowKit
def Part:Type:=Option Addr×Nat×List Int
def Part.val (p:Part):Value:= .slice p.1 p.2.2.length p.2.1
def flat (ps:List Part):List Int:=(ps.map fun p=>p.2.2).flatten
def PartOk (w:World) (p:Part):Prop:=Bytes p.2.2∧p.2.2.length≤p.2.1∧Lies w p.1 p.2.2
theorem PartOk.below {w w':World} {p:Part} (h:PartOk w p) (hb:Below w.heap.size w w'):PartOk w' p:=⟨h.1,h.2.1,h.2.2.below hb⟩
def PartsAt (w:World) (P:Option Addr) (ps:List Part):Prop:=
 0<ps.length→ ∃b o,P=some ⟨b,o,none⟩∧b<w.heap.size∧ ∀j p,ps[j]? =some p→w.cell? ⟨b,o+j,none⟩=some p.val
theorem flat_take (ps:List Part) (j:Nat) (p:Part) (h:ps[j]? =some p):flat (ps.take (j+1))=flat (ps.take j)++p.2.2:=by
 rw[List.take_add_one,h]
 simp[flat]
theorem flat_le (ps:List Part) (j:Nat):(flat (ps.take j)).length≤(flat ps).length:=by
 have:flat ps=flat (ps.take j)++flat (ps.drop j):=by
  rw[flat,flat,flat,←List.flatten_append,←List.map_append,List.take_append_drop]
 rw[this,List.length_append];omega
theorem join_any (P:Option Addr) (ps:List Part) (c:Nat) (w:World) (hlen:ps.length≤9223372036854775807) (hn:(flat ps).length<2305843009213693952) (hps: ∀p∈ps,PartOk w p) (hat:PartsAt w P ps) (htab:Tabs w):
  Calls Tryz.prog 120 #[.slice P ps.length c] w fun e w'=>e= .returned (.agg (ints .u8 (zbX (flat ps))).toArray)∧Below w.heap.size w w':=by
 have HPS:=Lib.hid hps
 have HAT:=Lib.hid hat
 have HT:=Lib.hid htab
 obtain⟨k,hk⟩: ∃k,k=ps.length:=⟨_,rfl⟩
 rw[←hk]at hlen⊢
 have HK:=Lib.hid hk
 clear hps hat htab hk
 go_enter Tryz.func120,Tryz.ntmps120
 go_wp2_with(first
  |(refine zaK rfl (some 2) rfl _ rfl _ z24 ?_;intro g2 w2 hg2 hb2 hgr;have hB:=(Below.refl _ w).grown hgr (Nat.le_refl _) (by simp);clear hgr;try go_frame)
  |(refine zaK rfl (some 3) rfl _ rfl _ z38 ?_;intro g3 w3 hg3 hb3 hgr;have h23:g2<g3:=Nat.lt_of_lt_of_le hb2.lt hg3;have h3B:w.heap.size≤g3:=Nat.le_trans hB.size hg3;replace hB:=hB.grown hgr hB.size (by simp);replace hb2:=hb2.grownN hgr;clear hgr;try go_frame))
 have hT3:Hid (Tabs w3):=Lib.hid (HT.out.ofBelow hB)
 have hb2h:=Lib.hid hb2
 have HB3:=Lib.hid hb3
 have HB:=Lib.hid hB
 clear hB hb2 hb3
 go_loopw[8] (fun i wr=> ∃j:Nat,j≤k∧i= .int .i64 j∧HRep wr g3 (flat (ps.take j))∧w3.grownBy wr (some g3)) (fun i _=>k-(intOf i).toNat)
 case atStart=>exact⟨0,by omega,rfl,⟨_,_,HOk.zero,HB3.out⟩,zaY _ _⟩
 case round=>
  obtain⟨j,hj,rfl,hrep,hgr⟩:=hrel
  have HREP:=Lib.hid hrep
  have HGR:=Lib.hid hgr
  clear hrep hgr
  by_cases hlt:j<k
  ·obtain⟨p,hp⟩: ∃p,ps[j]? =some p:=⟨ps[j]'(by rw[←HK.out];exact hlt),List.getElem?_eq_getElem _⟩
   obtain⟨hby,hpc,hlies⟩:=HPS.out p (List.mem_of_getElem? hp)
   obtain⟨b,o,rfl,hbl,hcell⟩:=HAT.out (by rw[←HK.out];omega)
   have hgc:wr.cell? ⟨b,o+j,none⟩=some p.val:=by
    rw[World.cell?_of_block (w:=w3) (HGR.out.block b (Nat.lt_of_lt_of_le hbl HB.out.size) (by intro e;injection e with e;omega)),HB.out.cell hbl]
    exact hcell j p hp
   have hsrc:Src wr g3 p.1 p.2.2:=by
    have h1:=Src.grown (hlies.src h3B) (zaX HB.out none) (.inl rfl)
    exact h1.grown HGR.out (.inr rfl)
   have hTr:Tabs wr:=by
    obtain⟨s0,b0,_,hb0⟩:=HREP.out
    exact hT3.out.grown HB3.out HGR.out
   have hle:=flat_le ps (j+1)
   have hft:=flat_take ps j p hp
   rw[hft,List.length_append]at hle
   have hw:=write_any g3 (flat (ps.take j)) p.2.2 p.1 p.2.1 wr hby hpc (by omega) HREP.out hsrc hTr
   rw[←hft]at hw
   clear hby hpc hlies hcell hsrc hTr hle hft hp hbl
   unfold Part.val at hgc
   obtain⟨A,c',xs⟩:=p
   simp only at hgc hw
   go_wp2_with(go_at_call 154;refine hw.mono ?_;rintro e w4 ⟨rfl,hrep4,hgr4⟩;have H4:=Lib.hid (And.intro hrep4 (HGR.out.trans hgr4));clear hrep4 hgr4 hw hgc)
   go_roundw
   case rel=>exact⟨j+1,by omega,by go_num,H4.out.1,H4.out.2⟩
   case measure=>simp[intOf];omega
  ·have HJ:=Lib.hid (show j=ps.length by rw[←HK.out];omega)
   have hrep':HRep wr g3 (flat ps):=by
    have:=HREP.out
    rw[HJ.out,List.take_length]at this;exact this
   have hTr:Tabs wr:=hT3.out.grown HB3.out HGR.out
   have hs:=hsum_any g3 (flat ps) wr hn hrep' hTr
   have hB4:=HB.out.grown HGR.out HB.out.size (by intro k hk;injection hk with hk;omega)
   have h24:=hb2h.out.grown HGR.out (by intro h;injection h with h;omega)
   obtain⟨D,hD⟩: ∃D,D=zbX (flat ps):=⟨_,rfl⟩
   have HD32:=Lib.hid (show D.length=32 by rw[hD,zap])
   rw[←hD]at hs
   have HD:=Lib.hid (fun _:Unit=>hD)
   clear hD hrep' hTr
   go_wp2_with(first
    |(go_at_call 155;refine hs.mono ?_;rintro e w5 ⟨rfl,hbw⟩;have hB5:=hB4.trans (hbw.mono hB4.size);have h25:=h24.below hbw h24.lt;clear hbw hs)
    |(refine zac rfl none rfl _ (.tmp 2) (.tmp 15) rfl g2 0 (ints .u8 D) rfl rfl _ _ h25 (by simp[HD32.out]) (by rw[s24,length_ints,HD32.out]) (zal _ _) ?_;intro w6 h26 hgr;rw[zah _ _ (by simp[HD32.out])]at h26;have hB6:=hB5.grown hgr hB5.size (by intro k hk;injection hk with hk;omega);clear hgr;try go_frame))
   exact bodyPost_ret (v:= .agg (ints .u8 D).toArray) (zbb Tryz.results120 _ _ g2 _ _ _ rfl h26 Tryz.underlying82 rfl (by rw[s24,length_ints,HD32.out])) rfl ⟨by rw[HD.out ()],hB6⟩
theorem flat_one (A:Option Addr) (c:Nat) (xs:List Int):flat [((A,c,xs):Part)]=xs:=by show List.flatten [xs]=xs;simp
theorem flat_two (A B:Option Addr) (c d:Nat) (xs ys:List Int):flat [((A,c,xs):Part),((B,d,ys):Part)]=xs++ys:=by show List.flatten [xs,ys]=xs++ys;simp
theorem join_one (A:Option Addr) (c:Nat) (xs:List Int) (w:World) (hc:xs.length≤c) (hn:xs.length<2305843009213693952) (hx:Bytes xs) (hl:Lies w A xs) (htab:Tabs w) (t:TypeId):
  Calls Tryz.prog 120 #[.slice (some ⟨w.heap.size,0,none⟩) 1 1] (w.alloc (.cells #[.slice A xs.length c] t)) fun e w'=>e= .returned (.agg (ints .u8 (zbX xs)).toArray)∧Below w.heap.size w w':=by
 have hb:Below w.heap.size w (w.alloc (.cells #[.slice A xs.length c] t)):=(Below.refl _ w).alloc (Nat.le_refl _) _
 have h:=join_any (some ⟨w.heap.size,0,none⟩) [((A,c,xs):Part)] 1 (w.alloc (.cells #[.slice A xs.length c] t)) (by show 1≤_;decide) (by rw[flat_one];exact hn)
  (fun p hp=>by rw[List.mem_singleton.1 hp];exact PartOk.below ⟨hx,hc,hl⟩ hb)
  (fun _=>⟨w.heap.size,0,rfl,by simp,fun j p hp=>by
   match j,hp with
   |0,hp=>
    injection hp with hp
    subst hp
    rw[cell_of_row _ _ _ _ t (0,0) (heap_alloc_new w _)]
    rfl⟩) (htab.below hb)
 rw[flat_one]at h
 exact h.mono fun e w' ⟨he,hw⟩=>⟨he,hb.trans (hw.mono hb.size)⟩
theorem join_two (A B:Option Addr) (c d:Nat) (xs ys:List Int) (w:World) (hc:xs.length≤c) (hd:ys.length≤d) (hn:xs.length+ys.length<2305843009213693952) (hx:Bytes xs) (hy:Bytes ys) (hl:Lies w A xs) (hm:Lies w B ys) (htab:Tabs w) (t:TypeId):
  Calls Tryz.prog 120 #[.slice (some ⟨w.heap.size,0,none⟩) 2 2] (w.alloc (.cells #[.slice A xs.length c,.slice B ys.length d] t)) fun e w'=>e= .returned (.agg (ints .u8 (zbX (xs++ys))).toArray)∧Below w.heap.size w w':=by
 have hb:Below w.heap.size w (w.alloc (.cells #[.slice A xs.length c,.slice B ys.length d] t)):=(Below.refl _ w).alloc (Nat.le_refl _) _
 have h:=join_any (some ⟨w.heap.size,0,none⟩) [((A,c,xs):Part),((B,d,ys):Part)] 2 (w.alloc (.cells #[.slice A xs.length c,.slice B ys.length d] t)) (by show 2≤_;decide) (by rw[flat_two,List.length_append];exact hn)
  (fun p hp=>by
   rcases List.mem_cons.1 hp with rfl|hp
   ·exact PartOk.below ⟨hx,hc,hl⟩ hb
   ·rw[List.mem_singleton.1 hp];exact PartOk.below ⟨hy,hd,hm⟩ hb)
  (fun _=>⟨w.heap.size,0,rfl,by simp,fun j p hp=>by
   match j,hp with
   |0,hp=>
    injection hp with hp
    subst hp
    rw[cell_of_row _ _ _ _ t (0,0) (heap_alloc_new w _)]
    rfl
   |1,hp=>
    injection hp with hp
    subst hp
    rw[cell_of_row _ _ _ _ t (0,0) (heap_alloc_new w _)]
    rfl⟩) (htab.below hb)
 rw[flat_two]at h
 exact h.mono fun e w' ⟨he,hw⟩=>⟨he,hb.trans (hw.mono hb.size)⟩
theorem sum_any (A:Option Addr) (c:Nat) (xs:List Int) (w:World) (hc:xs.length≤c) (hn:xs.length<2305843009213693952) (hx:Bytes xs) (hl:Lies w A xs) (htab:Tabs w):
  Calls Tryz.prog 153 #[.slice A xs.length c] w fun e w'=>e= .returned (.agg (ints .u8 (zbX xs)).toArray)∧Below w.heap.size w w':=by
 have HT:=Lib.hid htab
 have HL:=Lib.hid hl
 have HX:=Lib.hid hx
 have HD32:=Lib.hid (show(zbX xs).length=32 by rw[zap])
 have hj:=fun(W:World) (hB:Below w.heap.size w W)=>join_one A c xs W hc hn hx (hl.below hB) (htab.below hB) 46
 obtain⟨D,hD⟩: ∃D,D=zbX xs:=⟨_,rfl⟩
 rw[←hD]at hj HD32
 have HD:=Lib.hid (fun _:Unit=>hD)
 clear htab hl hx hD
 go_enter Tryz.func153,Tryz.ntmps153
 go_wp2_with(first
  |(refine zaK rfl (some 2) rfl _ rfl _ z24 ?_;intro g2 w2 hg2 hb2 hgr;have hB:=(Below.refl _ w).grown hgr (Nat.le_refl _) (by simp);clear hgr;try go_frame)
  |(go_at_call 120;refine(hj _ hB).mono ?_;rintro e w5 ⟨rfl,hbw⟩;have hB5:=hB.trans (hbw.mono hB.size);have h25:=hb2.below hbw hb2.lt;clear hbw hj)
  |(refine zac rfl none rfl _ (.tmp 2) (.tmp 5) rfl g2 0 (ints .u8 D) rfl rfl _ _ h25 (by simp[HD32.out]) (by rw[s24,length_ints,HD32.out]) (zal _ _) ?_;intro w6 h26 hgr;rw[zah _ _ (by simp[HD32.out])]at h26;have hB6:=hB5.grown hgr hB5.size (by intro k hk;injection hk with hk;omega);clear hgr;try go_frame))
 exact bodyPost_ret (v:= .agg (ints .u8 D).toArray) (zbb Tryz.results153 _ _ g2 _ _ _ rfl h26 Tryz.underlying82 rfl (by rw[s24,length_ints,HD32.out])) rfl ⟨by rw[HD.out ()],hB6⟩
def keyL (key:List Int):List Int:=if 64<key.length then splice (List.replicate 64 0) 0 (zbX key)else splice (List.replicate 64 0) 0 key
theorem zkQ (key:List Int):(keyL key).length=64:=by
 unfold keyL
 split
 ·rw[length_splice _ _ _ (by rw[zap,List.length_replicate];omega),List.length_replicate]
 ·rw[length_splice _ _ _ (by rw[List.length_replicate];omega),List.length_replicate]
theorem keyL_bd {key:List Int} (h:Bytes key):Bytes (keyL key):=by
 unfold keyL
 split
 ·exact(Bytes.rep 64).splice (zbv key) 0
 ·exact(Bytes.rep 64).splice h 0
def xorK (K:List Int) (c:Int):Nat→List Int
 |0=>K
 |j+1=>(xorK K c j).set j (bits .xor .u8 ((xorK K c j).getD j 0) c)
@[simp] theorem length_xorK (K:List Int) (c:Int): ∀j,(xorK K c j).length=K.length
 |0=>rfl
 |j+1=>by simp[xorK,length_xorK K c j]
theorem bits_u8 (op:BinOp) (x y:Int):0≤bits op .u8 x y∧bits op .u8 x y≤255:=by
 unfold bits;simp only[IntKind.wrap_u8];omega
theorem zjQ {K:List Int} (h:Bytes K) (c:Int): ∀j,Bytes (xorK K c j)
 |0=>h
 |j+1=>fun i=>set_bd _ _ _ (bits_u8 _ _ _) (zjQ h c j) i
def macL (key b:List Int):List Int:=zbX (xorK (keyL key) 92 64++zbX (xorK (keyL key) 54 64++b))
theorem zjc (k:IntKind) (l m:List Int) (n:Nat):splice (ints k l) n (ints k m)=ints k (splice l n m):=by simp[splice,ints]
theorem Lies.all {w:World} {A:Option Addr} {xs:List Int} (h:Lies w A xs):0<(ints .u8 xs).length→ ∃ad,A=some ad∧ ∀j v,(ints .u8 xs)[j]? =some v→w.cell? (ad.add j)=some v:=fun hp=>by
 obtain⟨b,o,e,_,_,hc⟩:=h (by simpa using hp)
 exact⟨_,e,fun j v hv=>by rw[Addr.add_mid];exact hc j v hv⟩
theorem fillKey_any (A:Option Addr) (c:Nat) (key:List Int) (w:World) (hc:key.length≤c) (hn:key.length<2305843009213693952) (hx:Bytes key) (hl:Lies w A key) (htab:Tabs w):
  Calls Tryz.prog 119 #[.slice A key.length c] w fun e w'=>e= .returned (.agg (ints .u8 (keyL key)).toArray)∧Below w.heap.size w w':=by
 have hsw:=fun(g:Nat)=>zbQ (P:=Tryz.prog) 179 5 64 Tryz.underlying179 s5 g 0 (by omega)
 have hsw2:=fun(g:Nat)=>zbQ (P:=Tryz.prog) 82 5 32 Tryz.underlying82 s5 g 0 (by omega)
 have hsum:=fun(W:World) (hB:Below w.heap.size w W)=>sum_any A c key W hc hn hx (hl.below hB) (htab.below hB)
 have HL:=Lib.hid hl
 obtain⟨D,hD⟩: ∃D,D=zbX key:=⟨_,rfl⟩
 have HD32:=Lib.hid (show D.length=32 by rw[hD,zap])
 rw[←hD]at hsum
 obtain⟨n,hn'⟩: ∃n,n=key.length:=⟨_,rfl⟩
 have HK1:Hid (∀_:Unit,64<n→keyL key=splice (List.replicate 64 0) 0 D):=Lib.hid (fun _ h=>by rw[keyL,if_pos (by omega),hD])
 have HK2:Hid (∀_:Unit,¬64<n→keyL key=splice (List.replicate 64 0) 0 key):=Lib.hid (fun _ h=>by rw[keyL,if_neg (by omega)])
 have hn61:n<2305843009213693952:=by omega
 rw[←hn']at hsum⊢
 have HN:=Lib.hid hn'
 clear htab hl hx hD hn' hn hc
 by_cases h64:64<n
 ·go_enter Tryz.func119,Tryz.ntmps119
  go_wp2_with(first
   |(refine zaK rfl (some 2) rfl _ rfl _ z35 ?_;intro g2 w2 hg2 hb2 hgr;have hB:=(Below.refl _ w).grown hgr (Nat.le_refl _) (by simp);clear hgr;try go_frame)
   |(refine zaK rfl (some 3) rfl _ rfl _ z35 ?_;intro g3 w3 hg3 hb3 hgr;have h23:g2<g3:=Nat.lt_of_lt_of_le hb2.lt hg3;have h3B:w.heap.size≤g3:=Nat.le_trans hB.size hg3;have hB3:=hB.grown hgr hB.size (by simp);have hb23:=hb2.grownN hgr;clear hgr hB hb2;try go_frame)
   |(go_at_call 153;refine(hsum _ hB3).mono ?_;rintro e w4 ⟨rfl,hbw⟩;have hB4:=hB3.trans (hbw.mono hB3.size);have hb24:=hb23.below hbw hb23.lt;have hb34:=hb3.below hbw hb3.lt;clear hbw hsum)
   |(refine zaK rfl (some 4) rfl _ rfl _ z24 ?_;intro g5 w5 hg5 hb5 hgr;have h35:g3<g5:=Nat.lt_of_lt_of_le hb34.lt hg5;have h5B:w.heap.size≤g5:=Nat.le_trans hB4.size hg5;have hB5:=hB4.grown hgr hB4.size (by simp);have hb25:=hb24.grownN hgr;have hb35:=hb34.grownN hgr;clear hgr hB4;try go_frame)
   |(refine zac rfl none rfl _ (.tmp 4) (.tmp 9) rfl g5 0 (ints .u8 D) rfl rfl _ _ hb5 (by simp[HD32.out]) (by rw[s24,length_ints,HD32.out]) (zal _ _) ?_;intro w6 hb6 hgr;rw[zah _ _ (by simp[HD32.out])]at hb6;have hB6:=hB5.grown hgr hB5.size (by intro k hk;injection hk with hk;omega);have hb26:=hb25.grown hgr (by intro h;injection h with h;omega);have hb36:=hb35.grown hgr (by intro h;injection h with h;omega);clear hgr;try go_frame))
  have hrd: ∀j v,(ints .u8 D)[j]? =some v→w6.drew.cell? ((⟨g5,0,none⟩:Addr).add j)=some v:=fun j v hv=>by
   rw[Addr.add_mid,Nat.zero_add]
   exact(hb6.cell j).trans hv
  go_region_law(refine zdk (w:=w6.drew) rfl (.tmp 10) (.tmp 11) _ _ rfl 5 Tryz.underlying46 s5 (some ⟨g3,0,none⟩) (some ⟨g5,0,none⟩) 64 64 32 32 (by simp[Act.eval,Act.put]) (by simp[Act.eval,Act.put]) g3 0 _ _ hb36.drew (ints .u8 D) 32 (by rw[length_ints,HD32.out]) rfl (fun _=>⟨rfl,_,rfl,hrd⟩) (by rw[length_ints,length_ints,HD32.out,List.length_replicate];omega) (zal _ _) ?_;intro w7 hb7 hgr)
  rw[zjc]at hb7
  have hgr':w6.grownBy w7 (some g3):=(zaJ (zaY w6 _)).trans hgr
  have hB7:=hB6.grown hgr' hB6.size (by intro k hk;injection hk with hk;omega)
  have hb27:=hb26.grown hgr' (by intro h;injection h with h;omega)
  obtain⟨M,hM⟩: ∃M,M=splice (List.replicate 64 (0:Int)) 0 D:=⟨_,rfl⟩
  have HM64:=Lib.hid (show M.length=64 by rw[hM,length_splice _ _ _ (by rw[HD32.out,List.length_replicate];omega),List.length_replicate])
  rw[←hM]at hb7
  have HM:=Lib.hid (fun _:Unit=>hM)
  clear hM hrd hgr hgr' hB6 hb26 hb36 hb6
  go_wp2_with(first
   |(refine zae rfl (some 13) rfl _ (.tmp 3) rfl _ 0 rfl _ _ hb7 (ints .u8 M) (by simp) _ Tryz.underlying179 rfl (by rw[s35,length_ints,HM64.out]) ?_;try go_frame)
   |(refine zac rfl none rfl _ (.tmp 2) (.tmp 13) rfl g2 0 (ints .u8 M) rfl rfl _ _ hb27 (by simp[HM64.out]) (by rw[s35,length_ints,HM64.out]) (zal _ _) ?_;intro w8 hb8 hgr;rw[zah _ _ (by simp[HM64.out])]at hb8;have hB8:=hB7.grown hgr hB7.size (by intro k hk;injection hk with hk;omega);clear hgr;try go_frame))
  exact bodyPost_ret (v:= .agg (ints .u8 M).toArray) (zbb Tryz.results119 _ _ g2 _ _ _ rfl hb8 Tryz.underlying179 rfl (by rw[s35,length_ints,HM64.out])) rfl ⟨by rw[HM.out (),HK1.out () h64],hB8⟩
 ·have HM64:=Lib.hid (show(splice (List.replicate 64 (0:Int)) 0 key).length=64 by rw[length_splice _ _ _ (by rw[←HN.out,List.length_replicate];omega),List.length_replicate])
  obtain⟨M,hM⟩: ∃M,M=splice (List.replicate 64 (0:Int)) 0 key:=⟨_,rfl⟩
  rw[←hM]at HM64
  have HM:=Lib.hid (fun _:Unit=>hM)
  clear hM
  have hmin:n=Nat.min n 64:=(Nat.min_eq_left (by omega)).symm
  have HMIN:=Lib.hid hmin
  clear hmin
  go_enter Tryz.func119,Tryz.ntmps119
  go_wp2_with(first
   |(refine zaK rfl (some 2) rfl _ rfl _ z35 ?_;intro g2 w2 hg2 hb2 hgr;have hB:=(Below.refl _ w).grown hgr (Nat.le_refl _) (by simp);clear hgr;try go_frame)
   |(refine zaK rfl (some 3) rfl _ rfl _ z35 ?_;intro g3 w3 hg3 hb3 hgr;have h23:g2<g3:=Nat.lt_of_lt_of_le hb2.lt hg3;have h3B:w.heap.size≤g3:=Nat.le_trans hB.size hg3;have hB3:=hB.grown hgr hB.size (by simp);have hb23:=hb2.grownN hgr;clear hgr hB hb2;try go_frame)
   |(refine zjX rfl (some 16) rfl (.tmp 14) (.tmp 15) _ _ rfl 5 Tryz.underlying46 s5 (some ⟨g3,0,none⟩) A 64 64 n c rfl rfl g3 0 _ _ hb3 (ints .u8 key) n (by rw[length_ints,←HN.out]) HMIN.out (fun hp=>⟨rfl,(HL.out.below hB3).all hp⟩) (by rw[length_ints,length_ints,←HN.out,List.length_replicate];omega) (zal _ _) ?_;intro w7 hb7 hgr;rw[zjc,←HM.out ()]at hb7;have hB7:=hB3.grown hgr hB3.size (by intro k hk;injection hk with hk;omega);have hb27:=hb23.grown hgr (by intro h;injection h with h;omega);clear hgr;try go_frame)
   |(refine zae rfl (some 17) rfl _ (.tmp 3) rfl _ 0 rfl _ _ hb7 (ints .u8 M) (by simp) _ Tryz.underlying179 rfl (by rw[s35,length_ints,HM64.out]) ?_;try go_frame)
   |(refine zac rfl none rfl _ (.tmp 2) (.tmp 17) rfl g2 0 (ints .u8 M) rfl rfl _ _ hb27 (by simp[HM64.out]) (by rw[s35,length_ints,HM64.out]) (zal _ _) ?_;intro w8 hb8 hgr;rw[zah _ _ (by simp[HM64.out])]at hb8;have hB8:=hB7.grown hgr hB7.size (by intro k hk;injection hk with hk;omega);clear hgr;try go_frame))
  exact bodyPost_ret (v:= .agg (ints .u8 M).toArray) (zbb Tryz.results119 _ _ g2 _ _ _ rfl hb8 Tryz.underlying179 rfl (by rw[s35,length_ints,HM64.out])) rfl ⟨by rw[HM.out (),HK2.out () h64],hB8⟩
def ZBlk (w:World) (g:Nat):Prop:=Blk w g 82 (ints .u8 (List.replicate 32 0))
theorem mac_any (A B:Option Addr) (c d:Nat) (key xs:List Int) (w:World) (hc:key.length≤c) (hd:xs.length≤d) (hn:key.length<2305843009213693952) (hm:xs.length<1152921504606846976) (hk:Bytes key) (hx:Bytes xs)
  (hl:Lies w A key) (hl2:Lies w B xs) (htab:Tabs w):
  Calls Tryz.prog 86 #[.slice A key.length c,.slice B xs.length d] w fun e w'=>e= .returned (.agg (ints .u8 (macL key xs)).toArray)∧Below w.heap.size w w':=by
 have hfill:=fun(W:World) (hB:Below w.heap.size w W)=>fillKey_any A c key W hc hn hk (hl.below hB) (htab.below hB)
 have hsw:=fun(g:Nat)=>zbQ (P:=Tryz.prog) 179 5 64 Tryz.underlying179 s5 g 0 (by omega)
 have hsw2:=fun(g:Nat)=>zbQ (P:=Tryz.prog) 82 5 32 Tryz.underlying82 s5 g 0 (by omega)
 have HKB:=Lib.hid (keyL_bd hk)
 have HK64:=Lib.hid (zkQ key)
 obtain⟨K,hK⟩: ∃K,K=keyL key:=⟨_,rfl⟩
 rw[←hK]at hfill HKB HK64
 have HKD:=Lib.hid (fun _:Unit=>hK)
 have HL2:=Lib.hid hl2
 have HT:=Lib.hid htab
 have HX:=Lib.hid hx
 obtain⟨n,hn'⟩: ∃n,n=xs.length:=⟨_,rfl⟩
 rw[←hn']at hd hm⊢
 have HN:=Lib.hid hn'
 obtain⟨n0,hn0⟩: ∃n,n=key.length:=⟨_,rfl⟩
 rw[←hn0]at hfill hc hn⊢
 clear hn0 hK hl hl2 htab hk hx hn'
 go_enter Tryz.func86,Tryz.ntmps86
 go_wp2_with(first
  |(refine zaK rfl (some 4) rfl _ rfl _ z24 ?_;intro g4 w2 hg4 hb4 hgr;have hB:=(Below.refl _ w).grown hgr (Nat.le_refl _) (by simp);clear hgr;try go_frame)
  |(go_at_call 119;refine(hfill _ hB).mono ?_;rintro e w3 ⟨rfl,hbw⟩;have hB3:=hB.trans (hbw.mono hB.size);have hb43:=hb4.below hbw hb4.lt;clear hbw hfill)
  |(refine zaK rfl (some 5) rfl _ rfl _ z35 ?_;intro g5 w4 hg5 hb5 hgr;have h45:g4<g5:=Nat.lt_of_lt_of_le hb43.lt hg5;have h4B:w.heap.size≤g4:=hg4;have h5B:w.heap.size≤g5:=Nat.le_trans hB3.size hg5;have hB4:=hB3.grown hgr hB3.size (by simp);have hb44:=hb43.grownN hgr;clear hgr hB;try go_frame)
  |(refine zac rfl none rfl _ (.tmp 5) (.tmp 10) rfl g5 0 (ints .u8 K) rfl rfl _ _ hb5 (by simp[HK64.out]) (by rw[s35,length_ints,HK64.out]) (zal _ _) ?_;intro w5 hb55 hgr;rw[zah _ _ (by simp[HK64.out])]at hb55;have hB5:=hB4.grown hgr hB4.size (by intro k hk;injection hk with hk;omega);have hb45:=hb44.grown hgr (by intro h;injection h with h;omega);clear hgr;try go_frame)
  |(refine zae rfl (some 11) rfl _ (.tmp 5) rfl _ 0 rfl _ _ hb55 (ints .u8 K) (by simp) _ Tryz.underlying179 rfl (by rw[s35,length_ints,HK64.out]) ?_;try go_frame)
  |(refine zaK rfl (some 6) rfl _ rfl _ z35 ?_;intro g6 w6 hg6 hb6 hgr;have h56:g5<g6:=Nat.lt_of_lt_of_le hb55.lt hg6;have h6B:w.heap.size≤g6:=Nat.le_trans hB5.size hg6;have hB6:=hB5.grown hgr hB5.size (by simp);have hb46:=hb45.grownN hgr;have hb56:=hb55.grownN hgr;clear hgr;try go_frame)
  |(refine zac rfl none rfl _ (.tmp 6) (.tmp 11) rfl g6 0 (ints .u8 K) rfl rfl _ _ hb6 (by simp[HK64.out]) (by rw[s35,length_ints,HK64.out]) (zal _ _) ?_;intro w7 hb67 hgr;rw[zah _ _ (by simp[HK64.out])]at hb67;have hB7:=hB6.grown hgr hB6.size (by intro k hk;injection hk with hk;omega);have hb47:=hb46.grown hgr (by intro h;injection h with h;omega);have hb57:=hb56.grown hgr (by intro h;injection h with h;omega);clear hgr;try go_frame))
 have H7:=Lib.hid (And.intro hB7 (And.intro hb47 (And.intro hb57 hb67)))
 clear hB7 hb47 hb57 hb67 hb45 hb46 hb56 hb55 hb44 hb43 hb4 hb5 hb6 hB6 hB5 hB4 hB3
 go_loopw[12] (fun i wr=> ∃j:Nat,j≤64∧i= .int .i64 j∧Below w.heap.size w wr∧Blk wr g4 82 (ints .u8 (List.replicate 32 0))∧Blk wr g5 179 (ints .u8 (xorK K 54 j))∧Blk wr g6 179 (ints .u8 (xorK K 92 j))) (fun i _=>64-(intOf i).toNat)
 case atStart=>exact⟨0,by omega,rfl,H7.out.1,H7.out.2.1,H7.out.2.2.1,H7.out.2.2.2⟩
 case round=>
  obtain⟨j,hj,rfl,hB,hb4,hb5,hb6⟩:=hrel
  by_cases hlt:j<64
  ·have gx:=zaq .u8 (xorK K 54 j) j (by rw[length_xorK,HK64.out];exact hlt)
   have gy:=zaq .u8 (xorK K 92 j) j (by rw[length_xorK,HK64.out];exact hlt)
   obtain⟨hx0,hx1⟩:=zjQ HKB.out 54 j j
   obtain⟨hy0,hy1⟩:=zjQ HKB.out 92 j j
   have HSX:Hid (∀_:Unit,(ints .u8 (xorK K 54 j)).set j (.int .u8 (bits .xor .u8 ((xorK K 54 j).getD j 0) 54))=ints .u8 (xorK K 54 (j+1))):=Lib.hid (fun _=>by rw[zcc];exact rfl)
   have HSY:Hid (∀_:Unit,(ints .u8 (xorK K 92 j)).set j (.int .u8 (bits .xor .u8 ((xorK K 92 j).getD j 0) 92))=ints .u8 (xorK K 92 (j+1))):=Lib.hid (fun _=>by rw[zcc];exact rfl)
   obtain⟨x,hx⟩: ∃x,x=(xorK K 54 j).getD j 0:=⟨_,rfl⟩
   obtain⟨y,hy⟩: ∃x,x=(xorK K 92 j).getD j 0:=⟨_,rfl⟩
   rw[←hx]at gx hx0 hx1 HSX
   rw[←hy]at gy hy0 hy1 HSY
   have GX:=Lib.hid gx
   have GY:=Lib.hid gy
   clear hx hy gx gy
   go_wp2_with(first
    |(refine zbV rfl (some 17) rfl _ (.tmp 16) rfl g5 j rfl _ _ hb5 (.int .u8 x) GX.out .u8 Tryz.underlying5 ?_)
    |(refine zaf rfl none rfl _ (.tmp 19) (.tmp 18) rfl g5 j (.int .u8 (bits .xor .u8 x 54)) rfl rfl rfl _ _ hb5 (by rw[length_ints,length_xorK,HK64.out];exact hlt) s5 ?_;intro wa hb5a hgr;have hBa:=hB.grown hgr hB.size (by intro k hk;injection hk with hk;omega);have hb4a:=hb4.grown hgr (by intro h;injection h with h;omega);have hb6a:=hb6.grown hgr (by intro h;injection h with h;omega);clear hgr;try go_frame)
    |(refine zbV rfl (some 22) rfl _ (.tmp 21) rfl g6 j rfl _ _ hb6a (.int .u8 y) GY.out .u8 Tryz.underlying5 ?_)
    |(refine zaf rfl none rfl _ (.tmp 24) (.tmp 23) rfl g6 j (.int .u8 (bits .xor .u8 y 92)) rfl rfl rfl _ _ hb6a (by rw[length_ints,length_xorK,HK64.out];exact hlt) s5 ?_;intro wb hb6b hgr;have hBb:=hBa.grown hgr hBa.size (by intro k hk;injection hk with hk;omega);have hb4b:=hb4a.grown hgr (by intro h;injection h with h;omega);have hb5b:=hb5a.grown hgr (by intro h;injection h with h;omega);clear hgr;try go_frame))
   rw[HSX.out ()]at hb5b
   rw[HSY.out ()]at hb6b
   go_roundw
   case rel=>exact⟨j+1,by omega,by go_num,hBb,hb4b,hb5b,hb6b⟩
   case measure=>simp[intOf];omega
  ·have hj64:j=64:=by omega
   have HI:Hid ((xorK K 54 64).length=64∧Bytes (xorK K 54 64)):=Lib.hid ⟨by rw[length_xorK,HK64.out],zjQ HKB.out 54 64⟩
   have HO:Hid ((xorK K 92 64).length=64∧Bytes (xorK K 92 64)):=Lib.hid ⟨by rw[length_xorK,HK64.out],zjQ HKB.out 92 64⟩
   rw[hj64]at hb5 hb6
   obtain⟨I,hI⟩: ∃I,I=xorK K 54 64:=⟨_,rfl⟩
   obtain⟨O,hO⟩: ∃I,I=xorK K 92 64:=⟨_,rfl⟩
   rw[←hI]at hb5 HI
   rw[←hO]at hb6 HO
   have HID:=Lib.hid (fun _:Unit=>hI)
   have HOD:=Lib.hid (fun _:Unit=>hO)
   clear hI hO hj64 H7
   have hj1:=fun(W:World) (hBW:Below w.heap.size w W) (h5:Blk W g5 179 (ints .u8 I))=>join_two (some ⟨g5,0,none⟩) B 64 d I xs W (by rw[HI.out.1];omega) (by rw[←HN.out];exact hd) (by rw[HI.out.1,←HN.out];omega) HI.out.2 HX.out (Lies.whole h5) (HL2.out.below hBW) (HT.out.below hBW) 46
   obtain⟨D,hD⟩: ∃D,D=zbX (I++xs):=⟨_,rfl⟩
   have HD:Hid (D.length=32∧Bytes D):=Lib.hid ⟨by rw[hD,zap],by rw[hD];exact zbv _⟩
   rw[←hD,HI.out.1,←HN.out]at hj1
   have HDD:=Lib.hid (fun _:Unit=>hD)
   clear hD
   have hj2:=fun(W:World) (hBW:Below w.heap.size w W) (g8:Nat) (h6:Blk W g6 179 (ints .u8 O)) (h8:Blk W g8 82 (ints .u8 D))=>join_two (some ⟨g6,0,none⟩) (some ⟨g8,0,none⟩) 64 32 O D W (by rw[HO.out.1];omega) (by rw[HD.out.1];omega) (by rw[HO.out.1,HD.out.1];omega) HO.out.2 HD.out.2 (Lies.whole h6) (Lies.whole h8) (HT.out.below hBW) 46
   obtain⟨E,hE⟩: ∃E,E=zbX (O++D):=⟨_,rfl⟩
   have hE32:E.length=32:=by rw[hE,zap]
   rw[←hE,HO.out.1,HD.out.1]at hj2
   have HE:Hid (∀_:Unit,macL key xs=E):=Lib.hid (fun _=>by rw[hE,HDD.out (),HOD.out (),HID.out (),HKD.out ()];rfl)
   clear hE
   have hdec:decide ((j:Int)<64)=false:=by simp;omega
   go_wp2_with(first
    |(go_at_call 120;refine(hj1 _ hB hb5).mono ?_;rintro e wa ⟨rfl,hbw⟩;have hBa:=hB.trans (hbw.mono hB.size);have hb4a:=hb4.below hbw hb4.lt;have hb6a:=hb6.below hbw hb6.lt;clear hbw hj1)
    |(refine zaK rfl (some 8) rfl _ rfl _ z24 ?_;intro g8 wb hg8 hb8 hgr;have h68:g6<g8:=Nat.lt_of_lt_of_le hb6a.lt hg8;have h8B:w.heap.size≤g8:=Nat.le_trans hBa.size hg8;have hBb:=hBa.grown hgr hBa.size (by simp);have hb4b:=hb4a.grownN hgr;have hb6b:=hb6a.grownN hgr;clear hgr hBa;try go_frame)
    |(refine zac rfl none rfl _ (.tmp 8) (.tmp 29) rfl g8 0 (ints .u8 D) rfl rfl _ _ hb8 (by simp[HD.out.1]) (by rw[s24,length_ints,HD.out.1]) (zal _ _) ?_;intro wc hb8c hgr;rw[zah _ _ (by simp[HD.out.1])]at hb8c;have hBc:=hBb.grown hgr hBb.size (by intro k hk;injection hk with hk;omega);have hb4c:=hb4b.grown hgr (by intro h;injection h with h;omega);have hb6c:=hb6b.grown hgr (by intro h;injection h with h;omega);clear hgr;try go_frame))
   have hstore: ∀W,ZBlk W g4→(storeCells ⟨g4,0,none⟩ (ints .u8 E) 0).run Tryz.prog W= .ok () (W.setCells g4 0 (ints .u8 E)):=fun W h=>by
    have:=run_storeCells_cells (P:=Tryz.prog) g4 0 (ints .u8 E) 0 W (fun j hj=>by simpa using((Blk.there (show Blk W g4 _ _ from h) 0 32 (by simp)) j (by rw[length_ints,hE32]at hj;exact hj)).1) (fun j hj=>by simpa using((Blk.there (show Blk W g4 _ _ from h) 0 32 (by simp)) j (by rw[length_ints,hE32]at hj;exact hj)).2) (zal _ _)
    simpa using this
   go_region_law(go_simp;go_at_call 120;refine(hj2 wc.drew ((Below.refl _ w).trans hBc).drew g8 hb6c.drew hb8c.drew).mono ?_;rintro e wd ⟨rfl,hbw⟩;have hb4d:ZBlk wd g4:=(hb4c.drew).below hbw hb4c.lt;have hBd:=hBc.drew.trans (hbw.mono hBc.size))
   have h9:=zcw g4 _ (ints .u8 E) 0 _ wd hb4d (by rw[length_ints,length_ints,hE32,List.length_replicate];omega)
   rw[zah _ _ (by simp[hE32])]at h9
   have hB9:=hBd.grown h9.2 hBd.size (by intro k hk;injection hk with hk;omega)
   have hb9:=h9.1
   clear hstore hj2 h9
   generalize wd.setCells g4 0 (ints .u8 E)=w9 at*
   have HE32:=Lib.hid hE32
   clear hE32
   go_wp2_with fail
   exact bodyPost_ret (v:= .agg (ints .u8 E).toArray) (zbb Tryz.results86 _ _ g4 _ _ _ rfl hb9 Tryz.underlying82 rfl (by rw[s24,length_ints,HE32.out])) rfl ⟨by rw[HE.out ()],hB9⟩
def orX (xs ys:List Int):Nat→Int
 |0=>0
 |k+1=>bits .or .u8 (orX xs ys k) (bits .xor .u8 (xs.getD k 0) (ys.getD k 0))
theorem bits_u8' (op:BinOp) (x y:Int):0≤bits op .u8 x y∧bits op .u8 x y≤255:=by
 unfold bits;simp only[IntKind.wrap_u8];omega
theorem orX_bd (xs ys:List Int): ∀k,0≤orX xs ys k∧orX xs ys k≤255
 |0=>⟨Int.le_refl 0,by show(0:Int)≤255;decide⟩
 |k+1=>bits_u8' _ _ _
theorem of8 (x:Int) (h0:0≤x) (h1:x≤255):((BitVec.ofInt 8 x).toNat:Int)=x:=by
 rw[BitVec.toNat_ofInt]
 have:(x%((2^8:Nat):Int))=x:=by show x%256=x;omega
 rw[this];omega
theorem or8_zero (x y:Int) (hx:0≤x∧x≤255) (hy:0≤y∧y≤255):bits .or .u8 x y=0↔x=0∧y=0:=by
 have hl:=(BitVec.ofInt 8 x|||BitVec.ofInt 8 y).isLt
 have e:bits .or .u8 x y=((BitVec.ofInt 8 x|||BitVec.ofInt 8 y).toNat:Int):=by
  show IntKind.u8.wrap ((BitVec.ofInt 8 x|||BitVec.ofInt 8 y).toNat:Int)=_
  rw[IntKind.wrap_u8];omega
 have ex:=of8 x hx.1 hx.2
 have ey:=of8 y hy.1 hy.2
 rw[e]
 constructor
 ·intro h
  have h2:BitVec.ofInt 8 x|||BitVec.ofInt 8 y=0#8:=BitVec.eq_of_toNat_eq (by simpa using h)
  rw[BitVec.or_eq_zero_iff]at h2
  rw[h2.1]at ex;rw[h2.2]at ey
  exact⟨by simpa using ex.symm,by simpa using ey.symm⟩
 ·rintro⟨rfl,rfl⟩;rfl
theorem xor8_zero (x y:Int) (hx:0≤x∧x≤255) (hy:0≤y∧y≤255):bits .xor .u8 x y=0↔x=y:=by
 have hl:=(BitVec.ofInt 8 x^^^BitVec.ofInt 8 y).isLt
 have e:bits .xor .u8 x y=((BitVec.ofInt 8 x^^^BitVec.ofInt 8 y).toNat:Int):=by
  show IntKind.u8.wrap ((BitVec.ofInt 8 x^^^BitVec.ofInt 8 y).toNat:Int)=_
  rw[IntKind.wrap_u8];omega
 have ex:=of8 x hx.1 hx.2
 have ey:=of8 y hy.1 hy.2
 rw[e]
 constructor
 ·intro h
  have h2:BitVec.ofInt 8 x^^^BitVec.ofInt 8 y=0#8:=BitVec.eq_of_toNat_eq (by simpa using h)
  rw[BitVec.xor_eq_zero_iff]at h2
  rw[h2]at ex
  exact ex.symm.trans ey
 ·rintro rfl;simp
theorem orX_zero {xs ys:List Int} (hx:Bytes xs) (hy:Bytes ys): ∀k,orX xs ys k=0↔ ∀i,i<k→xs.getD i 0=ys.getD i 0
 |0=>by simp[orX]
 |k+1=>by
  rw[orX,or8_zero _ _ (orX_bd _ _ _) (bits_u8' _ _ _),xor8_zero _ _ (hx k) (hy k),orX_zero hx hy k]
  constructor
  ·rintro⟨h1,h2⟩ i hi
   rcases Nat.lt_or_ge i k with h|h
   ·exact h1 i h
   ·obtain rfl:i=k:=by omega
    exact h2
  ·intro h;exact⟨fun i hi=>h i (by omega),h k (by omega)⟩
theorem shaSame_of {xs ys:List Int} (hx:Bytes xs) (hy:Bytes ys) (hl:xs.length=ys.length):(orX xs ys xs.length==0)=decide (xs=ys):=by
 rw[Bool.eq_iff_iff,beq_iff_eq,decide_eq_true_eq,orX_zero hx hy]
 constructor
 ·intro h
  apply List.ext_getElem hl
  intro i h1 h2
  have:=h i h1
  simpa[h1,h2]using this
 ·rintro rfl i _;rfl
def SaysSame (xs ys:List Int) (w:World) (e:Ending) (w':World):Prop:=e= .returned (.bool (decide (xs=ys)))∧ ∃k,w'=w.drewN k
theorem shaSame_any (A B:Option Addr) (c d:Nat) (xs ys:List Int) (w:World) (hn:xs.length≤9223372036854775807) (hm:ys.length≤9223372036854775807) (hx:Bytes xs) (hy:Bytes ys) (hl:Lies w A xs) (hl2:Lies w B ys):
  Calls Tryz.prog 69 #[.slice A xs.length c,.slice B ys.length d] w (SaysSame xs ys w):=by
 by_cases hlen:xs.length=ys.length
 ·have HS:=Lib.hid (fun _:Unit=>shaSame_of hx hy hlen)
  obtain⟨n,hn'⟩: ∃n,n=xs.length:=⟨_,rfl⟩
  rw[←hlen,←hn']
  rw[←hn']at hn HS
  have HN:=Lib.hid (show n=ys.length by rw[hn',hlen])
  have HN':=Lib.hid hn'
  have HX:=Lib.hid hx
  have HY:=Lib.hid hy
  have HL:=Lib.hid hl
  have HL2:=Lib.hid hl2
  clear hlen hm hx hy hl hl2 hn'
  go_enter Tryz.func69,Tryz.ntmps69
  go_wp2_with fail
  go_loopw[5,14] (fun v i wr=> ∃k m:Nat,k≤n∧v= .int .u8 (orX xs ys k)∧i= .int .i64 k∧wr=w.drewN m) (fun _ i _=>n-(intOf i).toNat)
  case atStart=>exact⟨0,0,by omega,rfl,rfl,rfl⟩
  case round=>
   obtain⟨k,m,hk,rfl,rfl,rfl⟩:=hrel
   by_cases hlt:k<n
   ·obtain⟨b1,o1,rfl,_,_,hc1⟩:=HL.out (by rw[←HN'.out];omega)
    obtain⟨b2,o2,rfl,_,_,hc2⟩:=HL2.out (by rw[←HN.out];omega)
    have g1:(w.drewN m).cell? ⟨b1,o1+k,none⟩=_:=hc1 k _ (zaq .u8 xs k (by rw[←HN'.out];exact hlt))
    have g2:(w.drewN m).cell? ⟨b2,o2+k,none⟩=_:=hc2 k _ (zaq .u8 ys k (by rw[←HN.out];exact hlt))
    obtain⟨hx0,hx1⟩:=HX.out k
    obtain⟨hy0,hy1⟩:=HY.out k
    obtain⟨hz0,hz1⟩:=orX_bd xs ys k
    have HO:Hid (∀_:Unit,orX xs ys (k+1)=bits .or .u8 (orX xs ys k) (bits .xor .u8 (xs.getD k 0) (ys.getD k 0))):=Lib.hid (fun _=>rfl)
    obtain⟨x,ex⟩: ∃x,x=xs.getD k 0:=⟨_,rfl⟩
    obtain⟨y,ey⟩: ∃x,x=ys.getD k 0:=⟨_,rfl⟩
    obtain⟨z,ez⟩: ∃x,x=orX xs ys k:=⟨_,rfl⟩
    rw[←ex]at g1 hx0 hx1 HO
    rw[←ey]at g2 hy0 hy1 HO
    rw[←ez]at hz0 hz1 HO⊢
    clear ex ey ez hc1 hc2
    obtain⟨wr,hwr⟩: ∃x,x=w.drewN m:=⟨_,rfl⟩
    rw[←hwr]at g1 g2⊢
    have HWR:=Lib.hid hwr
    clear hwr
    go_wp2_with fail
    go_quiet (fail)
    go_wp2_with fail
    go_roundw
    case rel=>exact⟨k+1,m+nq,by omega,by rw[HO.out ()],by go_num,by rw[HWR.out,World.drewN_drewN]⟩
    case measure=>simp[intOf];omega
   ·have HK:=Lib.hid (show k=n by omega)
    go_wp2_with fail
    go_ret
    exact⟨by rw[←HS.out (),←HK.out];rfl,m,rfl⟩
 ·have hne:decide (xs=ys)=false:=decide_eq_false (fun h=>hlen (by rw[h]))
  obtain⟨n,hn'⟩: ∃n,n=xs.length:=⟨_,rfl⟩
  obtain⟨m,hm'⟩: ∃n,n=ys.length:=⟨_,rfl⟩
  rw[←hn',←hm']at hlen⊢
  have hd:(((n:Nat):Int)!=(m:Int))=true:=by simp;omega
  have HNE:=Lib.hid (fun _:Unit=>hne)
  clear hne hn hm hx hy hl hl2 hn' hm'
  go_enter Tryz.func69,Tryz.ntmps69
  go_wp2_with fail
  go_ret
  exact⟨by rw[HNE.out ()];rfl,0,rfl⟩
theorem info5s:(Tryz.prog.info? 5).map (fun i=>(i.zero,i.size,i.bytes))=some (some (.int .u8 0),1,1):=by kernel_rfl
theorem tag_any (kid sec body:ByteArray) (w:World) (hs:sec.size≤1000000) (hb:body.size≤1000000) (ht:Tabs w):
  Calls Tryz.prog 53 #[.agg #[.string kid,.string sec],.string body] w fun e w'=>e= .returned (.agg (ints .u8 (macL (strL sec) (strL body))).toArray)∧Below w.heap.size w w':=by
 have HMAC:=Lib.hid (fun(W:World) (A B:Option Addr) (c d:Nat) (hc:sec.size≤c) (hd:body.size≤d) (hW:Below w.heap.size w W) (h1:Lies W A (strL sec)) (h2:Lies W B (strL body))=>by
  have:=mac_any A B c d (strL sec) (strL body) W (by rw[zaQ];omega) (by rw[zaQ];omega) (by rw[zaQ];omega) (by rw[zaQ];omega) (zaz _) (zaz _) h1 h2 (ht.below hW)
  rw[zaQ,zaQ]at this
  exact this)
 have HL:Hid ((macL (strL sec) (strL body)).length=32):=Lib.hid (zap _)
 obtain⟨D,hD⟩: ∃D,D=macL (strL sec) (strL body):=⟨_,rfl⟩
 rw[←hD]at HMAC HL⊢
 have HB0:=Lib.hid (zad w (.cells #[.string kid,.string sec] 41))
 clear ht hD hs hb
 go_enter Tryz.func53,Tryz.ntmps53
 go_wp2_with(first
  |(refine zaK rfl (some 4) rfl _ rfl _ z24 ?_;intro g4 w2 hg4 hb4 hgr;have HB2:=Lib.hid (HB0.out.grown hgr HB0.out.size (by simp));have hx0:=hgr.cell (a:=⟨w.heap.size,1,none⟩) (v:= .string sec) (by simp) (by simp);clear hgr;try go_frame)
  |(refine zbj rfl (some 7) rfl _ _ 5 (.tmp 6) rfl sec rfl Tryz.underlying9 Tryz.underlying46 Tryz.underlying5 ?_;intro A1 c1 w3 hl1 hc1 hb;have HB3:=Lib.hid (HB2.out.trans (hb.mono HB2.out.size));have HL1:=Lib.hid hl1;have HBK3:=Lib.hid (hb4.below hb hb4.lt);clear hb hl1 hb4;try go_frame)
  |(refine zbj rfl (some 9) rfl _ _ 5 (.tmp 8) rfl body rfl Tryz.underlying9 Tryz.underlying46 Tryz.underlying5 ?_;intro A2 c2 w4 hl2 hc2 hb;have HB4:=Lib.hid (HB3.out.trans (hb.mono HB3.out.size));have HL2:=Lib.hid hl2;have HL1':=Lib.hid (HL1.out.below hb);have HBK4:=Lib.hid (HBK3.out.below hb HBK3.out.lt);clear hb hl2;try go_frame)
  |(go_at_call 86;(with_reducible refine(HMAC.out _ _ _ _ _ hc1 hc2 HB4.out HL1'.out HL2.out).mono ?_);rintro e w5 ⟨rfl,hb⟩;have HB5:=Lib.hid (HB4.out.trans (hb.mono HB4.out.size));have hb5:=HBK4.out.below hb HBK4.out.lt;clear hb HMAC)
  |(refine zac rfl none rfl _ (.tmp 4) (.tmp 10) rfl g4 0 (ints .u8 D) rfl rfl _ _ hb5 (by simp[HL.out]) (by rw[s24,length_ints,HL.out]) (zal _ _) ?_;intro w6 hb6 hgr;rw[zah _ _ (by simp[HL.out])]at hb6;have HB6:=Lib.hid (HB5.out.grown hgr HB5.out.size (by intro k hk;injection hk with hk;have:=hg4;simp at this;omega));clear hgr hb5;try go_frame))
 exact bodyPost_ret (v:= .agg (ints .u8 D).toArray) (zbb Tryz.results53 _ _ g4 _ _ _ rfl hb6 Tryz.underlying82 rfl (by rw[s24,length_ints,HL.out])) rfl ⟨rfl,HB6.out⟩
theorem zhb (n:Nat) (x:Int):(BitVec.ofInt n x).toNat=(x%(2^n:Nat)).toNat:=by rw[BitVec.toNat_ofInt]
theorem or_u32 (x y:Nat) (hx:x<4294967296) (hy:y<4294967296):bits .or .u32 (x:Int) (y:Int)=((x|||y:Nat):Int):=by
 have h:(BitVec.ofInt 32 (x:Int)|||BitVec.ofInt 32 (y:Int)).toNat=x|||y:=by
  rw[BitVec.toNat_or,zhb,zhb]
  congr 1<;>omega
 have hl:=(BitVec.ofInt 32 (x:Int)|||BitVec.ofInt 32 (y:Int)).isLt
 show IntKind.u32.wrap ((BitVec.ofInt 32 (x:Int)|||BitVec.ofInt 32 (y:Int)).toNat:Int)=_
 rw[IntKind.wrap_u32,h]
 rw[h]at hl
 omega
theorem or_part (lo hi:Int) (k:Nat) (h0:0≤lo) (h1:lo<2^k) (h2:0≤hi) (h3:hi*2^k+lo<4294967296):bits .or .u32 lo (hi*2^k)=hi*2^k+lo:=by
 obtain⟨a,rfl⟩:=Int.eq_ofNat_of_zero_le h0
 obtain⟨b,rfl⟩:=Int.eq_ofNat_of_zero_le h2
 have hk:a<2^k:=by
  have e:((2:Int)^k)=((2^k:Nat):Int):=by simp
  rw[e]at h1
  exact Int.ofNat_lt.1 h1
 have e:((b:Int)*2^k)=((b*2^k:Nat):Int):=by simp
 have h3':b*2^k+a<4294967296:=by
  rw[e,←Int.natCast_add]at h3
  exact Int.ofNat_lt.1 h3
 rw[e,or_u32 a (b*2^k) (by omega) (by omega),Nat.or_comm,←Nat.shiftLeft_eq,←Nat.shiftLeft_add_eq_or_of_lt hk b,Nat.shiftLeft_eq]
 simp
theorem or_part' (lo hi:Int) (k:Nat) (h0:0≤lo) (h1:lo<2^k) (h2:0≤hi) (h3:hi*2^k+lo<4294967296):bits .or .u32 (hi*2^k) lo=hi*2^k+lo:=by
 rw[←or_part lo hi k h0 h1 h2 h3]
 unfold bits
 simp only[BitVec.or_comm]
theorem or_8 (lo hi:Int) (h:0≤lo∧lo<256) (h2:0≤hi∧hi<16777216):bits .or .u32 lo (hi*256)=hi*256+lo:=or_part lo hi 8 h.1 h.2 h2.1 (by omega)
theorem or_16 (lo hi:Int) (h:0≤lo∧lo<65536) (h2:0≤hi∧hi<65536):bits .or .u32 lo (hi*65536)=hi*65536+lo:=or_part lo hi 16 h.1 h.2 h2.1 (by omega)
theorem or_6' (lo hi:Int) (h:0≤lo∧lo<64) (h2:0≤hi∧hi<67108864):bits .or .u32 (hi*64) lo=hi*64+lo:=or_part' lo hi 6 h.1 h.2 h2.1 (by omega)
theorem and_63 (x:Int) (h0:0≤x) (h1:x<4294967296):bits .and .u32 x 63=x%64:=by
 obtain⟨a,rfl⟩:=Int.eq_ofNat_of_zero_le h0
 have h:(BitVec.ofInt 32 (a:Int)&&& BitVec.ofInt 32 63).toNat=a%64:=by
  rw[BitVec.toNat_and,zhb,zhb]
  have e1:((a:Int)%(2^32:Nat)).toNat=a:=by omega
  have e2:((63:Int)%(2^32:Nat)).toNat=2^6-1:=by decide
  rw[e1,e2,Nat.and_two_pow_sub_one_eq_mod]
 show IntKind.u32.wrap ((BitVec.ofInt 32 (a:Int)&&& BitVec.ofInt 32 63).toNat:Int)=_
 rw[IntKind.wrap_u32,h]
 omega
theorem zjJ (c:Int) (w:World) (h0:0≤c) (h1:c≤255):
  Calls Tryz.prog 124 #[.int .u8 c] w fun e w'=>e= .returned (.int .i64 (wo c))∧w=w':=by
 by_cases a1:65≤c
 ·by_cases a2:c≤90
  ·go_enter Tryz.func124,Tryz.ntmps124
   go_wp2
   go_ret
   exact⟨zcq (by unfold wo;rw[if_pos ⟨a1,a2⟩]),rfl⟩
  ·by_cases b1:97≤c
   ·by_cases b2:c≤122
    ·go_enter Tryz.func124,Tryz.ntmps124
     go_wp2
     go_ret
     exact⟨zcq (by unfold wo;rw[if_neg (by omega),if_pos ⟨b1,b2⟩];omega),rfl⟩
    ·have q1:(c==45)=false:=by simp;omega
     have q2:(c==95)=false:=by simp;omega
     have q3: ¬c≤57:=by omega
     go_enter Tryz.func124,Tryz.ntmps124
     go_wp2
     go_ret
     exact⟨zcq (by unfold wo;rw[if_neg (by omega),if_neg (by omega),if_neg (by omega),if_neg (by omega),if_neg (by omega)]),rfl⟩
   ·have q1:(c==45)=false:=by simp;omega
    have q3: ¬c≤57:=by omega
    by_cases c1:c=95
    ·subst c1
     go_enter Tryz.func124,Tryz.ntmps124
     go_wp2
     go_ret
     exact⟨rfl,rfl⟩
    ·have q2:(c==95)=false:=by simp;omega
     have C1:=Lib.hid c1
     clear c1
     go_enter Tryz.func124,Tryz.ntmps124
     go_wp2
     go_ret
     exact⟨zcq (by unfold wo;rw[if_neg (by omega),if_neg (by omega),if_neg (by omega),if_neg (by omega),if_neg C1.out]),rfl⟩
 ·have q2:(c==95)=false:=by simp;omega
  have q4: ¬97≤c:=by omega
  by_cases d1:48≤c
  ·by_cases d2:c≤57
   ·go_enter Tryz.func124,Tryz.ntmps124
    go_wp2
    go_ret
    exact⟨zcq (by unfold wo;rw[if_neg (by omega),if_neg (by omega),if_pos ⟨d1,d2⟩];omega),rfl⟩
   ·have q1:(c==45)=false:=by simp;omega
    go_enter Tryz.func124,Tryz.ntmps124
    go_wp2
    go_ret
    exact⟨zcq (by unfold wo;rw[if_neg (by omega),if_neg (by omega),if_neg (by omega),if_neg (by omega),if_neg (by omega)]),rfl⟩
  ·by_cases c1:c=45
   ·subst c1
    go_enter Tryz.func124,Tryz.ntmps124
    go_wp2
    go_ret
    exact⟨rfl,rfl⟩
   ·have q1:(c==45)=false:=by simp;omega
    have C1:=Lib.hid c1
    clear c1
    go_enter Tryz.func124,Tryz.ntmps124
    go_wp2
    go_ret
    exact⟨zcq (by unfold wo;rw[if_neg (by omega),if_neg (by omega),if_neg (by omega),if_neg C1.out,if_neg (by omega)]),rfl⟩
def zfp:List Int→Int
 |[]=>0
 |[a]=>a*65536
 |[a,b]=>a*65536+b*256
 |a::b::c::_=>a*65536+b*256+c
theorem Lies.at {w:World} {A:Option Addr} {xs:List Int} (h:Lies w A xs) (hp:0<xs.length): ∃b o,A=some ⟨b,o,none⟩∧w.cell? ⟨b,o,none⟩=some (.int .u8 (xs.getD 0 0))∧ ∀j,j<xs.length→w.cell? ⟨b,o+j,none⟩=some (.int .u8 (xs.getD j 0)):=by
 obtain⟨b,o,e,_,_,hc⟩:=h hp
 have g: ∀j,j<xs.length→w.cell? ⟨b,o+j,none⟩=some (.int .u8 (xs.getD j 0)):=fun j hj=>hc j _ (zaq .u8 xs j hj)
 exact⟨b,o,e,g 0 hp,g⟩
theorem joinB_bd {xs:List Int} (hx:Bytes xs):0≤zfp xs∧zfp xs<16777216:=by
 match xs with
 |[]=>decide
 |[a]=>have:=hx.mem (x:=a) (by simp);simp only[zfp];omega
 |[a,b]=>have:=hx.mem (x:=a) (by simp);have:=hx.mem (x:=b) (by simp);simp only[zfp];omega
 |a::b::c::_=>have:=hx.mem (x:=a) (by simp);have:=hx.mem (x:=b) (by simp);have:=hx.mem (x:=c) (by simp);simp only[zfp];omega
theorem zhg (A:Option Addr) (xs:List Int) (n c:Nat) (w:World) (hn:xs.length=n) (hn3:n≤3) (hx:Bytes xs) (hl:Lies w A xs):
  Calls Tryz.prog 80 #[.slice A n c] w fun e w'=>e= .returned (.int .u32 (zfp xs))∧w=w':=by
 match xs,hn with
 |[],hn=>
  subst hn
  go_enter Tryz.func80,Tryz.ntmps80
  go_wp2
  go_ret
  exact⟨rfl,rfl⟩
 |[x],hn=>
  subst hn
  obtain⟨b,o,rfl,h0,hc⟩:=hl.at (by simp)
  replace h0:w.cell? ⟨b,o,none⟩=some (.int .u8 x):=h0
  obtain⟨x0,x1⟩:=hx.mem (x:=x) (by simp)
  clear hc hl hx
  go_enter Tryz.func80,Tryz.ntmps80
  go_wp2
  go_ret
  exact⟨zcq (by rw[or_16 0 x (by omega) (by omega)];simp[zfp]),rfl⟩
 |[x,y],hn=>
  subst hn
  obtain⟨b,o,rfl,h0,hc⟩:=hl.at (by simp)
  replace h0:w.cell? ⟨b,o,none⟩=some (.int .u8 x):=h0
  have h1:w.cell? ⟨b,o+1,none⟩=some (.int .u8 y):=hc 1 (by simp)
  obtain⟨x0,x1⟩:=hx.mem (x:=x) (by simp)
  obtain⟨y0,y1⟩:=hx.mem (x:=y) (by simp)
  clear hc hl hx
  go_enter Tryz.func80,Tryz.ntmps80
  go_wp2
  go_ret
  exact⟨zcq (by rw[or_8 0 y (by omega) (by omega),or_16 _ x (by omega) (by omega)];simp[zfp]),rfl⟩
 |[x,y,z],hn=>
  subst hn
  obtain⟨b,o,rfl,h0,hc⟩:=hl.at (by simp)
  replace h0:w.cell? ⟨b,o,none⟩=some (.int .u8 x):=h0
  have h1:w.cell? ⟨b,o+1,none⟩=some (.int .u8 y):=hc 1 (by simp)
  have h2:w.cell? ⟨b,o+2,none⟩=some (.int .u8 z):=hc 2 (by simp)
  obtain⟨x0,x1⟩:=hx.mem (x:=x) (by simp)
  obtain⟨y0,y1⟩:=hx.mem (x:=y) (by simp)
  obtain⟨z0,z1⟩:=hx.mem (x:=z) (by simp)
  clear hc hl hx
  go_enter Tryz.func80,Tryz.ntmps80
  go_wp2
  go_ret
  exact⟨zcq (by rw[or_8 z y (by omega) (by omega),or_16 _ x (by omega) (by omega)];simp[zfp];omega),rfl⟩
 |_::_::_::_::_,hn=>simp at hn;omega
theorem signsFor_any (n:Nat) (w:World) (hn:n≤3):
  Calls Tryz.prog 82 #[.int .i64 (n:Int)] w fun e w'=>e= .returned (.int .i64 (((8*n+5)/6:Nat):Int))∧w=w':=by
 go_enter Tryz.func82,Tryz.ntmps82
 go_wp2
 go_ret
 exact⟨zcq (by omega),rfl⟩
theorem loose_two (w:World):Calls Tryz.prog 126 #[.int .i64 2] w fun e w'=>e= .returned (.int .i64 15)∧w=w':=by
 go_enter Tryz.func126,Tryz.ntmps126
 go_wp2
 go_ret
 exact⟨rfl,rfl⟩
theorem zjx (w:World):Calls Tryz.prog 126 #[.int .i64 3] w fun e w'=>e= .returned (.int .i64 3)∧w=w':=by
 go_enter Tryz.func126,Tryz.ntmps126
 go_wp2
 go_ret
 exact⟨rfl,rfl⟩
def zkp (pos:Int) (n:Int):Array Value:= #[.int .i64 pos,.iface 54 (.int .i64 n)]
theorem at_any (pos:Int) (w:World):
  Calls Tryz.prog 125 #[.int .i64 pos] w fun e w'=>e= .returned (.iface 188 (.pointer (some ⟨w.heap.size,0,none⟩)))∧w'=w.alloc (.cells (zkp pos 20) 190):=by
 go_enter Tryz.func125,Tryz.ntmps125
 go_wp2
 go_ret
 exact⟨rfl,rfl⟩
def signsA:Array UInt8:= #[65,66,67,68,69,70,71,72,73,74,75,76,77,78,79,80,81,82,83,84,85,86,87,88,89,90,97,98,99,100,101,102,103,104,105,106,107,108,109,110,111,112,113,114,115,116,117,118,119,120,121,122,48,49,50,51,52,53,54,55,56,57,45,95]
theorem sign_at: ∀n:Fin 64,signsA[n.val]?.map (fun b=>(b.toNat:Int))=some (sg (n.val:Int)):=by decide+kernel
theorem size_signs:signsA.size=64:=rfl
theorem index_signA (k:IntKind) (n:Int) (h0:0≤n) (h1:n<64) (w:World):(Instr.index 9 (.string ⟨signsA⟩) (.int k n)).run Tryz.prog w= .ok (.int .u8 (sg n)) w:=by
 obtain⟨m,rfl⟩:=Int.eq_ofNat_of_zero_le h0
 have hm:m<64:=by omega
 obtain⟨b,hb,hb2⟩:=Option.map_eq_some_iff.1 (sign_at ⟨m,hm⟩)
 simp only at hb hb2
 have hs:m<signsA.size:=by rw[size_signs];exact hm
 have hq:(if(0:Int)≤(m:Int)then(⟨signsA⟩:ByteArray)[(m:Int).toNat]? else none)=some b:=by
  rw[if_pos (by omega),Int.toNat_natCast,getElem?_pos (⟨signsA⟩:ByteArray) m hs,←hb,Array.getElem?_eq_getElem hs]
  rfl
 simp only[Instr.index,asIntOf,Sem.run_bind,Sem.run_pure,Result.andThen_ok,run_underlying Tryz.underlying9]
 rw[hq]
 simp only[Sem.run_pure,hb2]
theorem zdu (k:IntKind) (n:Int) (h0:0≤n) (h1:n<64) (w:World):(Instr.index 9 (.string {data:= #[65,66,67,68,69,70,71,72,73,74,75,76,77,78,79,80,81,82,83,84,85,86,87,88,89,90,97,98,99,100,101,102,103,104,105,106,107,108,109,110,111,112,113,114,115,116,117,118,119,120,121,122,48,49,50,51,52,53,54,55,56,57,45,95]}) (.int k n)).run Tryz.prog w= .ok (.int .u8 (sg n)) w:=index_signA k n h0 h1 w
def zfi (x:Int):List Int:=[sg (x/262144%64),sg (x/4096%64),sg (x/64%64),sg (x%64)]
theorem zie (x:Int) (w:World) (h0:0≤x) (h1:x<16777216):
  Calls Tryz.prog 79 #[.int .u32 x] w fun e w'=>e= .returned (.agg (ints .u8 (zfi x)).toArray)∧Below w.heap.size w w':=by
 have e1:=and_63 (x/262144) (by omega) (by omega)
 have e2:=and_63 (x/4096) (by omega) (by omega)
 have e3:=and_63 (x/64) (by omega) (by omega)
 have e4:=and_63 x (by omega) (by omega)
 have i1:=zdu .u32 (x/262144%64) (by omega) (by omega)
 have i2:=zdu .u32 (x/4096%64) (by omega) (by omega)
 have i3:=zdu .u32 (x/64%64) (by omega) (by omega)
 have i4:=zdu .u32 (x%64) (by omega) (by omega)
 have hsp:Hid (zfi x=[sg (x/262144%64),sg (x/4096%64),sg (x/64%64),sg (x%64)]):=Lib.hid rfl
 generalize x/262144%64=n1 at*
 generalize x/4096%64=n2 at*
 generalize x/64%64=n3 at*
 generalize x%64=n4 at*
 go_enter Tryz.func79,Tryz.ntmps79
 go_wp2
 go_region
 go_wp2
 refine bodyPost_ret (v:= .agg #[.int .u8 (sg n1),.int .u8 (sg n2),.int .u8 (sg n3),.int .u8 (sg n4)]) (by simp[results,Tryz.results79,go_sem]) rfl ⟨?_,?_⟩
 ·rw[hsp.out];rfl
 ·exact((Below.refl _ _).alloc (Nat.le_refl _) _).drew
end Go.Proofs.YtceddodfddlncaaGreatDoor
