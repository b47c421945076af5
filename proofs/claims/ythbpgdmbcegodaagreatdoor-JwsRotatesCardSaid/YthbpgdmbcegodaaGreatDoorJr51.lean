
import Derived.Test.YthbpgdmbcegodaaGreatDoorJr49
import Derived.Test.YthbpgdmbcegodaaGreatDoorJr50
set_option maxRecDepth 100000
set_option maxHeartbeats 16000000
set_option linter.all false
namespace Go.Proofs.YthbpgdmbcegodaaGreatDoor
open Go Go.RowKit
def kOne:ByteArray:=⟨#[107,49]⟩
def kSec:ByteArray:=⟨#[115,101,99,114,101,116]⟩
def kAt:ByteArray:=⟨#[97,116]⟩
def kPay:ByteArray:=⟨#[123,125]⟩
def kNone:ByteArray:=⟨#[123,34,97,108,103,34,58,34,110,111,110,101,34,125]⟩
def kWant:ByteArray:=⟨#[101,121,74,104,98,71,99,105,79,105,74,73,85,122,73,49,78,105,73,115,73,109,116,112,90,67,73,54,73,109,115,120,73,105,119,105,100,72,108,119,73,106,111,105,89,88,81,105,102,81,46,101,51,48,46]⟩
abbrev aKs:List KeyM:=[(kOne,kSec)]
theorem a_ring:zbs aKs=true:=by decide+kernel
theorem a_name:zbg (strL kAt)=true∧zbg (strL kOne)=true:=by decide+kernel
theorem a_body:zfb (hdrL kOne kAt) (strL kPay)++[46]=strL kWant:=by decide+kernel
theorem a_none:zdf (strL kNone)=true∧sayB (zai (strL kNone)).1 sAlg sHS=false:=by decide+kernel
theorem a_sign:zhj (kOne,kSec) kAt kPay=strL kWant++encL (macL (strL kSec) (zfb (hdrL kOne kAt) (strL kPay))):=by
 unfold zhj zds
 rw[←a_body];simp
theorem a_signM:zkq aKs kAt kPay=(zhj (kOne,kSec) kAt kPay,0):=by
 unfold zkq
 rw[if_neg (by rw[a_ring];decide),if_neg (by rw[a_name.1];decide),if_neg (by decide)]
 have hl:aKs.getLastD default=(kOne,kSec):=rfl
 have hz: ¬4096<(zhj (kOne,kSec) kAt kPay).length:=by
  rw[a_sign,List.length_append,zaQ,zba,znY]
  decide
 rw[hl,if_neg hz]
theorem a_ver {s:ByteArray} (hs:strL s=zhj (kOne,kSec) kAt kPay):verM aKs kAt s=(strL kPay,strL kOne,0):=by
 have hz:s.size≤4096:=by
  rw[←zaQ,hs,a_sign,List.length_append,zaQ,zba,znY];decide
 rw[zcq ⟨fun _=>a_ring,fun _=>a_name.1,fun _=>hz⟩,hs]
 unfold zhj
 rw[zmY (zhs _ _) (zbk _)]
 show verP aKs kAt _ _ _=_
 rw[verP_signed (k:=(kOne,kSec)) a_name.2 a_name.1 (zbk _),if_neg (by simp)]
 have hf:aKs.find? (fun q=>decide (kOne=q.1))=some (kOne,kSec):=by simp
 rw[show(fun q:KeyM=>decide ((kOne,kSec).1=q.1))=(fun q=>decide (kOne=q.1))from rfl,hf]
 show(if macL (strL kSec) (zfb (hdrL kOne kAt) (strL kPay))=macL (strL kSec) (zfb (hdrL kOne kAt) (strL kPay))then _ else _)=_
 rw[if_pos rfl]
theorem a_ver2 {s:ByteArray} (hs:strL s=zds (strL kSec) (strL kNone) (strL kPay)):verM aKs kAt s=([],[],82):=by
 have hz:s.size≤4096:=by
  rw[←zaQ,hs]
  unfold zds zfb
  simp only[List.length_append,List.length_cons,zba,znY,zaQ]
  decide
 rw[zcq ⟨fun _=>a_ring,fun _=>a_name.1,fun _=>hz⟩,hs,zmY (zbk _) (zbk _)]
 show verP aKs kAt _ _ _=_
 unfold verP
 rw[zfl _ (zib (zbk kNone)),if_neg (by rw[a_none.1];decide),if_pos a_none.2]
theorem a_key:KeyOk aKs:=fun k hk=>by simp at hk;subst hk;exact⟨by decide,by decide⟩
theorem ring_one (w:World) (k:KeyM) (t:TypeId):RingAt (w.alloc (.cells #[.string k.1,.string k.2] t)) (some ⟨w.heap.size,0,none⟩) [k]:=fun _=>⟨_,0,rfl,by simp,fun i q hi=>by
 match i,hi with
 |0,hi=>injection hi with hi;subst hi;exact⟨by simp,by simp⟩⟩
theorem alive8_any (w:World) (ha:Ask8 w):Calls Tryz.prog 21 #[] w fun e w'=>e= .returned (.bool true)∧Below w.heap.size w w':=by
 obtain⟨w1,hw1⟩: ∃W,W=w.alloc (.cells #[.string kOne,.string kSec] 59):=⟨_,rfl⟩
 have HB1:Hid (Below w.heap.size w w1):=Lib.hid (by rw[hw1];exact zad _ _)
 have HRG:Hid (RingAt w1 (some ⟨w.heap.size,0,none⟩) aKs):=Lib.hid (by rw[hw1];exact ring_one w (kOne,kSec) _)
 have x0:w1.cell? ⟨w.heap.size,0,none⟩=some (.string kOne):=by rw[hw1];simp
 have x1:w1.cell? ⟨w.heap.size,1,none⟩=some (.string kSec):=by rw[hw1];simp
 have HW1:=Lib.hid hw1
 have HA:=Lib.hid (ha.below HB1.out)
 have HSG:=Lib.hid (Sign_any aKs (some ⟨w.heap.size,0,none⟩) 1 1 kAt kPay w1 rfl (by decide) (by decide) a_key HRG.out HA.out)
 have HVF:=Lib.hid (fun(W:World) (s:ByteArray) (hW:Below w1.heap.size w1 W)=>Verify_any aKs (some ⟨w.heap.size,0,none⟩) 1 1 kAt s W rfl (by decide) (by decide) a_key (HRG.out.below hW) (HA.out.below hW))
 have HMK:=Lib.hid (fun(W:World)=>refMake_any kOne kSec kNone kPay W (by decide) (by decide) (by decide))
 clear ha hw1
 go_enter Tryz.func21,Tryz.ntmps21
 go_wp2_with(go_at_call 23;fail)
 have hsg:=HSG.out
 rw[HW1.out]at hsg
 refine hsg.mono ?_
 rintro e w2 ⟨s,v,rfl,hs,hv,hb⟩
 rw[a_signM]at hs hv
 obtain rfl:=hv.nil
 rw[←HW1.out]at hb
 have HB2:=Lib.hid hb
 have HS:=Lib.hid hs
 have hz:s.size=98:=by
  rw[←zaQ,hs];show(zhj (kOne,kSec) kAt kPay).length=_
  rw[a_sign,List.length_append,zaQ,zba,znY];rfl
 have hex:s.extract 0 55=⟨#[101,121,74,104,98,71,99,105,79,105,74,73,85,122,73,49,78,105,73,115,73,109,116,112,90,67,73,54,73,109,115,120,73,105,119,105,100,72,108,119,73,106,111,105,89,88,81,105,102,81,46,101,51,48,46]⟩:=zes (by
  rw[zav,hs];show List.drop 0 (List.take 55 (zhj (kOne,kSec) kAt kPay))=strL kWant
  rw[a_sign,List.drop_zero]
  exact List.take_left' (by rw[zaQ];rfl))
 have hle:(55:Int)≤(s.size:Int):=by omega
 have hle2:55≤s.size:=by omega
 have hzi:((s.size:Int)==98)=true:=by rw[hz];rfl
 have y0:=(hb.cell (zaW x0)).trans x0
 have y1:=(hb.cell (zaW x1)).trans x1
 clear hsg hs hv hb
 go_wp2_with(go_at_call 28;fail)
 refine(HVF.out w2 s HB2.out).mono ?_
 rintro e w3 ⟨t,u,v,rfl,ht,hu,hv,hb⟩
 rw[a_ver HS.out]at ht hu hv
 obtain rfl:t=⟨#[123,125]⟩:=zes ht
 obtain rfl:u=⟨#[107,49]⟩:=zes hu
 obtain rfl:=hv.nil
 have HB3:=Lib.hid (HB2.out.trans (hb.mono HB2.out.size))
 have z0:=(hb.cell (zaW y0)).trans y0
 have z1:=(hb.cell (zaW y1)).trans y1
 clear ht hu hv hb y0 y1 x0 x1 hz hex hle hle2 hzi HS HSG
 go_wp2_with(go_at_call 31;fail)
 refine(HMK.out _).mono ?_
 rintro e w4 ⟨s2,hs2,rfl,hb⟩
 have HS2:=Lib.hid hs2
 have HB4:=Lib.hid (HB3.out.trans (hb.mono HB3.out.size))
 clear hs2 hb z0 z1 HMK
 go_wp2_with(go_at_call 28;fail)
 refine(HVF.out w4 s2 HB4.out).mono ?_
 rintro e w5 ⟨t2,u2,v2,rfl,ht,hu,hv,hb⟩
 rw[a_ver2 HS2.out]at ht hu hv
 have HB5:=Lib.hid (HB4.out.trans (hb.mono HB4.out.size))
 have HNM:=Lib.hid (numW hv (HA.out.below HB5.out).ask.tab)
 clear ht hu hv hb HVF HS2
 go_wp2_with(go_at_call 26;fail)
 refine HNM.out.mono ?_
 rintro e w6 ⟨rfl,hb⟩
 have HB6:=Lib.hid (HB1.out.trans ((HB5.out.trans (hb.mono HB5.out.size)).mono HB1.out.size))
 clear hb HNM
 go_wp2
 go_ret
 exact⟨rfl,HB6.out⟩
theorem zku (ks:List KeyM) (A:Option Addr) (n c:Nat) (k1 k2:ByteArray) (w:World) (hn:ks.length=n) (hn9:n≤9223372036854775807) (hnc:n≤c) (hk:KeyOk ks) (hr:RingAt w A ks) (ha:Ask8 w):
  Calls Tryz.prog 7 #[.slice A n c,.agg #[.string k1,.string k2]] w fun e w'=>e= .returned (.bool true)∧Below w.heap.size w w':=by
 have hbx:=zad w (.cells #[.string k1,.string k2] 59)
 have hq0:(w.alloc (.cells #[.string k1,.string k2] 59)).cell? ⟨w.heap.size,0,none⟩=some (.string k1):=by simp
 have hq1:(w.alloc (.cells #[.string k1,.string k2] 59)).cell? ⟨w.heap.size,1,none⟩=some (.string k2):=by simp
 obtain⟨W0,hW0⟩: ∃W,W=w.alloc (.cells #[.string k1,.string k2] 59):=⟨_,rfl⟩
 rw[←hW0]at hbx hq0 hq1
 have HW:=Lib.hid hW0
 have HBX:=Lib.hid hbx
 have HAL:=Lib.hid (alive8_any W0 (ha.below hbx))
 have HGR:=Lib.hid (fun(W:World) (hW:Below w.heap.size w W)=>zmw ks A n c W hn hn9 (hr.below hW))
 have HRO:=Lib.hid (fun(W:World) (hW:Below w.heap.size w W) (h9:n≤1000000) (h1:k1.size≤1000000) (h2:k2.size≤1000000)=>jwRotate_any ks A n c (k1,k2) W hn h9 hnc hk (hr.below hW) h1 h2)
 have HRR:=Lib.hid (fun(W:World) (hW:Below w.heap.size w W) (h9:n≤1000000)=>refRot_any ks A n c (k1,k2) W hn h9 (hr.below hW))
 have HTB:=Lib.hid (fun(W:World) (hW:Below w.heap.size w W)=>(ha.below hW).ask.tab)
 obtain⟨gr,hgr⟩: ∃b,b=grK ks:=⟨_,rfl⟩
 have hg9:gr=false→n≤40:=fun h=>by
  rw[h]at hgr
  unfold grK at hgr
  have:=(Bool.or_eq_false_iff.1 hgr.symm).1
  rw[decide_eq_false_iff_not,hn]at this
  omega
 rw[←hgr]at HGR
 have HG9:=Lib.hid hg9
 clear ha hr hk hn hgr hbx hW0 hg9
 go_enter Tryz.func7,Tryz.ntmps7
 go_wp2_with(go_at_call 21;fail)
 rw[←HW.out]
 refine HAL.out.mono ?_
 rintro e w1 ⟨rfl,hb⟩
 have HB1:=Lib.hid (HBX.out.trans (hb.mono HBX.out.size))
 have y0:=(hb.cell (zaW hq0)).trans hq0
 have y1:=(hb.cell (zaW hq1)).trans hq1
 clear hb HAL hq0 hq1
 go_wp2_with(go_at_call 22;fail)
 refine(HGR.out _ HB1.out).mono ?_
 rintro e w2 ⟨rfl,hb⟩
 have HB2:=Lib.hid (HB1.out.trans (hb.mono HB1.out.size))
 have x0:=(hb.cell (zaW y0)).trans y0
 have x1:=(hb.cell (zaW y1)).trans y1
 clear hb HGR y0 y1
 cases gr with
 |true=>
  go_wp2
  go_ret
  exact⟨rfl,HB2.out⟩
 |false=>
 have hn40:=HG9.out rfl
 by_cases b1:1000<k1.size
 ·have c1:(1000:Int)<(k1.size:Int):=by omega
  go_wp2
  go_ret
  exact⟨by first|rfl|simp[c1],HB2.out⟩
 have c1: ¬(1000:Int)<(k1.size:Int):=by omega
 by_cases b2:1000<k2.size
 ·have c2:(1000:Int)<(k2.size:Int):=by omega
  go_wp2
  go_ret
  exact⟨by first|rfl|simp[c2],HB2.out⟩
 have c2: ¬(1000:Int)<(k2.size:Int):=by omega
 go_wp2_with(go_at_call 32;fail)
 refine(HRO.out _ HB2.out (by omega) (by omega) (by omega)).mono ?_
 rintro e w3 ⟨hres,hb⟩
 have HB3:=Lib.hid (HB2.out.trans (hb.mono HB2.out.size))
 have z0:=(hb.cell (zaW x0)).trans x0
 have z1:=(hb.cell (zaW x1)).trans x1
 clear hb HRO x0 x1
 rcases hres with⟨hrot,g,N,cap,rfl,hN,hNc,hg,hrg⟩|⟨hrot,rfl⟩
 ·have HRG:=Lib.hid hrg
  have hN5:N≤5:=by
   have:=(zdQ (Bool.and_eq_true _ _▸hrot:zbs ks=true∧zbs (zdd ks (k1,k2))=true).2).2.1
   omega
  have HNN:=Lib.hid hN
  clear hrg hN
  go_wp2_with(go_at_call 33;fail)
  refine(HRR.out _ HB3.out (by omega)).mono ?_
  rintro e w4 ⟨hres,hb⟩
  have HB4:=Lib.hid (HB3.out.trans (hb.mono HB3.out.size))
  have HRG4:=Lib.hid (HRG.out.below hb)
  clear hb HRR z0 z1
  rcases hres with⟨-,g2,N2,cap2,rfl,hN2,hrg2⟩|⟨h, -⟩
  case inr=>rw[hrot]at h;cases h
  obtain rfl:N2=N:=by rw[HNN.out,hN2]
  have HSM:=Lib.hid (ziX (zdd ks (k1,k2)) (some ⟨g,0,none⟩) (some ⟨g2,0,none⟩) N2 cap cap2 w4 hN2.symm (by omega) HRG4.out hrg2)
  clear hrg2 hN2 HNN
  go_wp2_with(go_at_call 34;(with_reducible refine HSM.out.mono ?_);rintro e w5 ⟨rfl,hb⟩;have HB5:=Lib.hid (HB4.out.trans (hb.mono HB4.out.size));clear hb)
  go_ret
  exact⟨rfl,HB5.out⟩
 ·go_wp2_with(go_at_call 33;fail)
  refine(HRR.out _ HB3.out (by omega)).mono ?_
  rintro e w4 ⟨hres,hb⟩
  have HB4:=Lib.hid (HB3.out.trans (hb.mono HB3.out.size))
  clear hb HRR z0 z1
  rcases hres with⟨h, -⟩|⟨-,rfl⟩
  ·rw[hrot]at h;cases h
  have HNU:=Lib.hid (num_errno 83 w4 (HTB.out _ HB4.out))
  have HSM:=Lib.hid (fun W=>ziX [] none none 0 0 0 W rfl (by omega) (RingAt.nil _ _) (RingAt.nil _ _))
  go_wp2_with(first
   |(go_at_call 26;(with_reducible refine HNU.out.mono ?_);rintro e w5 ⟨rfl,hb⟩;have HB5:=Lib.hid (HB4.out.trans (hb.mono HB4.out.size));clear hb)
   |(go_at_call 34;(with_reducible refine(HSM.out _).mono ?_);rintro e w6 ⟨rfl,hb⟩;have HB6:=Lib.hid (HB5.out.trans (hb.mono HB5.out.size));clear hb))
  go_ret
  exact⟨rfl,HB6.out⟩
end Go.Proofs.YthbpgdmbcegodaaGreatDoor
