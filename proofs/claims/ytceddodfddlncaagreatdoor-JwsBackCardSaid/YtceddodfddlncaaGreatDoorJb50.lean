
import Derived.Laws.StructEq
import Derived.Test.YtceddodfddlncaaGreatDoorJb48
import Derived.Test.YtceddodfddlncaaGreatDoorJb49
set_option maxRecDepth 100000
set_option maxHeartbeats 16000000
set_option linter.all false
namespace Go.Proofs.YtceddodfddlncaaGreatDoor
open Go Go.RowKit
def kOne:ByteArray:=⟨#[107,49]⟩
def kSec:ByteArray:=⟨#[115,101,99,114,101,116]⟩
def kAt:ByteArray:=⟨#[97,116]⟩
def kPay:ByteArray:=⟨#[123,125]⟩
def kNone:ByteArray:=⟨#[123,34,97,108,103,34,58,34,110,111,110,101,34,125]⟩
def kWant:ByteArray:=⟨#[101,121,74,104,98,71,99,105,79,105,74,73,85,122,73,49,78,105,73,115,73,109,116,112,90,67,73,54,73,109,115,120,73,105,119,105,100,72,108,119,73,106,111,105,89,88,81,105,102,81,46,101,51,48,46]⟩
abbrev aKs:List KeyM:=[(kOne,kSec)]
theorem a_ring:zbn aKs=true:=by decide+kernel
theorem a_name:zbJ (strL kAt)=true∧zbJ (strL kOne)=true:=by decide+kernel
theorem a_body:zeW (hdrL kOne kAt) (strL kPay)++[46]=strL kWant:=by decide+kernel
theorem a_none:zdi (strL kNone)=true∧sayB (zai (strL kNone)).1 sAlg sHS=false:=by decide+kernel
theorem a_sign:zdv (kOne,kSec) kAt kPay=strL kWant++encL (macL (strL kSec) (zeW (hdrL kOne kAt) (strL kPay))):=by
 unfold zdv zdJ
 rw[←a_body];simp
theorem a_signM:zfk aKs kAt kPay=(zdv (kOne,kSec) kAt kPay,0):=by
 unfold zfk
 rw[if_neg (by rw[a_ring];decide),if_neg (by rw[a_name.1];decide),if_neg (by decide)]
 have hl:aKs.getLastD default=(kOne,kSec):=rfl
 have hz: ¬4096<(zdv (kOne,kSec) kAt kPay).length:=by
  rw[a_sign,List.length_append,zaQ,zbd,zna]
  decide
 rw[hl,if_neg hz]
theorem a_ver {s:ByteArray} (hs:strL s=zdv (kOne,kSec) kAt kPay):verM aKs kAt s=(strL kPay,strL kOne,0):=by
 have hz:s.size≤4096:=by
  rw[←zaQ,hs,a_sign,List.length_append,zaQ,zbd,zna];decide
 rw[zcJ ⟨fun _=>a_ring,fun _=>a_name.1,fun _=>hz⟩,hs]
 unfold zdv
 rw[zgb (zdY _ _) (zaz _)]
 show verP aKs kAt _ _ _=_
 rw[zgh (k:=(kOne,kSec)) a_name.2 a_name.1 (zaz _),if_neg (by simp)]
 have hf:aKs.find? (fun q=>decide (kOne=q.1))=some (kOne,kSec):=by simp
 rw[show(fun q:KeyM=>decide ((kOne,kSec).1=q.1))=(fun q=>decide (kOne=q.1))from rfl,hf]
 show(if macL (strL kSec) (zeW (hdrL kOne kAt) (strL kPay))=macL (strL kSec) (zeW (hdrL kOne kAt) (strL kPay))then _ else _)=_
 rw[if_pos rfl]
theorem a_ver2 {s:ByteArray} (hs:strL s=zdJ (strL kSec) (strL kNone) (strL kPay)):verM aKs kAt s=([],[],82):=by
 have hz:s.size≤4096:=by
  rw[←zaQ,hs]
  unfold zdJ zeW
  simp only[List.length_append,List.length_cons,zbd,zna,zaQ]
  decide
 rw[zcJ ⟨fun _=>a_ring,fun _=>a_name.1,fun _=>hz⟩,hs,zgb (zaz _) (zaz _)]
 show verP aKs kAt _ _ _=_
 unfold verP
 rw[zeX _ (zgf (zaz kNone)),if_neg (by rw[a_none.1];decide),if_pos a_none.2]
theorem a_key:KeyOk aKs:=fun k hk=>by simp at hk;subst hk;exact⟨by decide,by decide⟩
theorem ring_one (w:World) (k:KeyM) (t:TypeId):RingAt (w.alloc (.cells #[.string k.1,.string k.2] t)) (some ⟨w.heap.size,0,none⟩) [k]:=fun _=>⟨_,0,rfl,by simp,fun i q hi=>by
 match i,hi with
 |0,hi=>injection hi with hi;subst hi;exact⟨by simp,by simp⟩⟩
theorem alive8_any (w:World) (ha:Ask8 w):Calls Tryz.prog 7 #[] w fun e w'=>e= .returned (.bool true)∧Below w.heap.size w w':=by
 obtain⟨w1,hw1⟩: ∃W,W=w.alloc (.cells #[.string kOne,.string kSec] 41):=⟨_,rfl⟩
 have HB1:Hid (Below w.heap.size w w1):=Lib.hid (by rw[hw1];exact zad _ _)
 have HRG:Hid (RingAt w1 (some ⟨w.heap.size,0,none⟩) aKs):=Lib.hid (by rw[hw1];exact ring_one w (kOne,kSec) _)
 have x0:w1.cell? ⟨w.heap.size,0,none⟩=some (.string kOne):=by rw[hw1];simp
 have x1:w1.cell? ⟨w.heap.size,1,none⟩=some (.string kSec):=by rw[hw1];simp
 have HW1:=Lib.hid hw1
 have HA:=Lib.hid (ha.below HB1.out)
 have HSG:=Lib.hid (Sign_any aKs (some ⟨w.heap.size,0,none⟩) 1 1 kAt kPay w1 rfl (by decide) (by decide) a_key HRG.out HA.out)
 have HVF:=Lib.hid (fun(W:World) (s:ByteArray) (hW:Below w1.heap.size w1 W)=>ziZ aKs (some ⟨w.heap.size,0,none⟩) 1 1 kAt s W rfl (by decide) (by decide) a_key (HRG.out.below hW) (HA.out.below hW))
 have HMK:=Lib.hid (fun(W:World)=>refMake_any kOne kSec kNone kPay W (by decide) (by decide) (by decide))
 clear ha hw1
 go_enter Tryz.func7,Tryz.ntmps7
 go_wp2_with(go_at_call 9;fail)
 have hsg:=HSG.out
 rw[HW1.out]at hsg
 refine hsg.mono ?_
 rintro e w2 ⟨s,v,rfl,hs,hv,hb⟩
 rw[a_signM]at hs hv
 obtain rfl:=hv.nil
 rw[←HW1.out]at hb
 have HB2:=Lib.hid hb
 have HS:=Lib.hid hs
 have hz:s.size=98:=by
  rw[←zaQ,hs];show(zdv (kOne,kSec) kAt kPay).length=_
  rw[a_sign,List.length_append,zaQ,zbd,zna];rfl
 have hex:s.extract 0 55=⟨#[101,121,74,104,98,71,99,105,79,105,74,73,85,122,73,49,78,105,73,115,73,109,116,112,90,67,73,54,73,109,115,120,73,105,119,105,100,72,108,119,73,106,111,105,89,88,81,105,102,81,46,101,51,48,46]⟩:=zdb (by
  rw[zax,hs];show List.drop 0 (List.take 55 (zdv (kOne,kSec) kAt kPay))=strL kWant
  rw[a_sign,List.drop_zero]
  exact List.take_left' (by rw[zaQ];rfl))
 have hle:(55:Int)≤(s.size:Int):=by omega
 have hle2:55≤s.size:=by omega
 have hzi:((s.size:Int)==98)=true:=by rw[hz];rfl
 have y0:=(hb.cell (zaa x0)).trans x0
 have y1:=(hb.cell (zaa x1)).trans x1
 clear hsg hs hv hb
 go_wp2_with(go_at_call 14;fail)
 refine(HVF.out w2 s HB2.out).mono ?_
 rintro e w3 ⟨t,u,v,rfl,ht,hu,hv,hb⟩
 rw[a_ver HS.out]at ht hu hv
 obtain rfl:t=⟨#[123,125]⟩:=zdb ht
 obtain rfl:u=⟨#[107,49]⟩:=zdb hu
 obtain rfl:=hv.nil
 have HB3:=Lib.hid (HB2.out.trans (hb.mono HB2.out.size))
 have z0:=(hb.cell (zaa y0)).trans y0
 have z1:=(hb.cell (zaa y1)).trans y1
 clear ht hu hv hb y0 y1 x0 x1 hz hex hle hle2 hzi HS HSG
 go_wp2_with(go_at_call 17;fail)
 refine(HMK.out _).mono ?_
 rintro e w4 ⟨s2,hs2,rfl,hb⟩
 have HS2:=Lib.hid hs2
 have HB4:=Lib.hid (HB3.out.trans (hb.mono HB3.out.size))
 clear hs2 hb z0 z1 HMK
 go_wp2_with(go_at_call 14;fail)
 refine(HVF.out w4 s2 HB4.out).mono ?_
 rintro e w5 ⟨t2,u2,v2,rfl,ht,hu,hv,hb⟩
 rw[a_ver2 HS2.out]at ht hu hv
 have HB5:=Lib.hid (HB4.out.trans (hb.mono HB4.out.size))
 have HNM:=Lib.hid (numW hv (HA.out.below HB5.out).ask.tab)
 clear ht hu hv hb HVF HS2
 go_wp2_with(go_at_call 12;fail)
 refine HNM.out.mono ?_
 rintro e w6 ⟨rfl,hb⟩
 have HB6:=Lib.hid (HB1.out.trans ((HB5.out.trans (hb.mono HB5.out.size)).mono HB1.out.size))
 clear hb HNM
 go_wp2
 go_ret
 exact⟨rfl,HB6.out⟩
theorem zlf {ks:List KeyM} (h:zbn ks=true) {i j:Nat} (hij:i<j) (hj:j<ks.length):ks[i].1≠ks[j].1:=fun e=>by
 unfold zbn at h
 rw[Bool.and_eq_true]at h
 have:=ziz (i:=j+1) hj h.2
 rw[zgV hj,Bool.and_eq_true,Bool.and_eq_true]at this
 have h2:=this.2.2
 have hm:zec (ks.take j) ks[j].1=true:=by
  unfold zec
  refine List.any_eq_true.2 ⟨ks[i],?_,decide_eq_true e⟩
  refine List.mem_iff_getElem.2 ⟨i,by rw[List.length_take];omega,by rw[List.getElem_take]⟩
 rw[hm]at h2
 cases h2
theorem ring_eq {ks:List KeyM} (h:zbn ks=true) {a b:KeyM} (ha:a∈ks) (hb:b∈ks) (e:a.1=b.1):a=b:=by
 obtain⟨i,hi,rfl⟩:=List.mem_iff_getElem.1 ha
 obtain⟨j,hj,rfl⟩:=List.mem_iff_getElem.1 hb
 rcases Nat.lt_trichotomy i j with h1|h1|h1
 ·exact absurd e (zlf h h1 hj)
 ·subst h1;rfl
 ·exact absurd e.symm (zlf h h1 hi)
theorem ring_find {ks:List KeyM} (h:zbn ks=true) {k:KeyM} (hk:k∈ks):ks.find? (fun q=>decide (k.1=q.1))=some k:=by
 cases hf:ks.find? (fun q=>decide (k.1=q.1))with
 |none=>have:=List.find?_eq_none.1 hf k hk;simp at this
 |some q=>
  have h1:=List.find?_some hf
  have h2:=List.mem_of_find?_eq_some hf
  rw[ring_eq h h2 hk (of_decide_eq_true h1).symm]
theorem verP_part {ks:List KeyM} {kind other:ByteArray} {kid:ByteArray} {payload c:List Int} (h1:zbJ (strL kid)=true) (h2:zbJ (strL kind)=true) (hp:Bytes payload):
  verP ks other (encL (hdrL kid kind)) (encL payload) c=
   if kind≠other then(([],[],81):List Int×List Int×Int)else match ks.find? (fun q=>decide (kid=q.1))with
    |none=>([],[],83)
    |some q=>if macL (strL q.2) (zeW (hdrL kid kind) payload)=decL c then(payload,strL q.1,0)else([],[],84):=by
 have d1:=zeX _ (zgf (zdY kid kind))
 have d2:=zeX _ (zgf hp)
 unfold verP
 rw[d1,d2,head_ok h1 h2,zgm h1 h2]
 show(if true=false then _ else if sayB (zeq kid kind) sAlg sHS=false then _ else if sayB (zeq kid kind) sTyp other=false then _ else _)=_
 rw[if_neg (by decide),say_alg,if_neg (by decide),say_typ]
 by_cases ho:kind=other
 ·rw[if_neg (by rw[decide_eq_true ho];decide),if_neg (by simpa using ho)]
  simp only[say_kid]
  rfl
 ·rw[if_pos (decide_eq_false ho),if_pos ho]
theorem signM_parts {ks:List KeyM} {kind payload:ByteArray} (h:(zfk ks kind payload).2=0):zbn ks=true∧zbJ (strL kind)=true∧(zfk ks kind payload).1=zdv (ks.getLastD default) kind payload∧(zdv (ks.getLastD default) kind payload).length≤4096:=by
 unfold zfk at h⊢
 split at h
 ·cases h
 ·split at h
  ·cases h
  ·split at h
   ·cases h
   ·split at h
    ·cases h
    ·rename_i a b c d
     rw[if_neg a,if_neg b,if_neg c,if_neg d]
     exact⟨by simpa using a,by simpa using b,rfl,by omega⟩
theorem ver_has {ks:List KeyM} {k:KeyM} {kind payload s:ByteArray} (hr:zbn ks=true) (hk:k∈ks) (hd:zbJ (strL kind)=true) (hs:strL s=zdv k kind payload) (hz:s.size≤4096):
  verM ks kind s=(strL payload,strL k.1,0):=by
 have hn:=((zbl hr).2.2 k hk).1
 rw[zcJ ⟨fun _=>hr,fun _=>hd,fun _=>hz⟩,hs]
 unfold zdv
 rw[zgb (zdY _ _) (zaz _)]
 show verP ks kind _ _ _=_
 rw[zgh hn hd (zaz _),if_neg (by simp),ring_find hr hk]
 show(if macL (strL k.2) _=macL (strL k.2) _ then _ else _)=_
 rw[if_pos rfl]
theorem ver_other {ks:List KeyM} {k:KeyM} {kind other payload s:ByteArray} (hr:zbn ks=true) (hk:k∈ks) (hd:zbJ (strL kind)=true) (ho:zbJ (strL other)=true) (hne:kind≠other) (hs:strL s=zdv k kind payload) (hz:s.size≤4096):
  verM ks other s=([],[],81):=by
 have hn:=((zbl hr).2.2 k hk).1
 rw[zcJ ⟨fun _=>hr,fun _=>ho,fun _=>hz⟩,hs]
 unfold zdv
 rw[zgb (zdY _ _) (zaz _)]
 show verP ks other _ _ _=_
 rw[zgh hn hd (zaz _),if_pos hne]
def zik (l:List Int):Nat:=l.count 46
theorem dots_few {X Y Z:List Int} (hx:46 ∉ X) (hy:46 ∉ Y) {i:Nat} (hi:i≤X.length+1+Y.length):zik ((X++46::(Y++46::Z)).take i)≤1:=by
 have e:(X++46::(Y++46::Z)).take i=(X++46::Y).take i:=by
  have:X++46::(Y++46::Z)=(X++46::Y)++46::Z:=by simp
  rw[this,List.take_append_of_le_length (by simp;omega)]
 unfold zik
 rw[e]
 refine Nat.le_trans (List.Sublist.count_le 46 (List.take_sublist i _)) ?_
 rw[List.count_append,List.count_cons,List.count_eq_zero.2 hx,List.count_eq_zero.2 hy]
 simp
theorem ver_turned {ks:List KeyM} {k:KeyM} {kind payload s t:ByteArray} {i:Nat} {c:Int} (hr:zbn ks=true) (hk:k∈ks) (hd:zbJ (strL kind)=true) (hs:strL s=zdv k kind payload) (hz:s.size≤4096)
  (ht:strL t=(strL s).set i c) (hi:i<s.size) (hc:c≠46) (hne:(strL s).getD i 0≠c) (hdots:2≤zik ((strL s).take i)):(verM ks kind t).2.2≠0:=by
 have hn:=((zbl hr).2.2 k hk).1
 have htz:t.size≤4096:=by rw[←zaQ,ht,List.length_set,zaQ];exact hz
 rw[zcJ ⟨fun _=>hr,fun _=>hd,fun _=>htz⟩]
 obtain⟨X,hX⟩: ∃X,X=encL (hdrL k.1 kind):=⟨_,rfl⟩
 obtain⟨Y,hY⟩: ∃Y,Y=encL (strL payload):=⟨_,rfl⟩
 obtain⟨B,hB⟩: ∃B,B=zeW (hdrL k.1 kind) (strL payload):=⟨_,rfl⟩
 obtain⟨Z,hZ⟩: ∃Z,Z=encL (macL (strL k.2) B):=⟨_,rfl⟩
 have x46:46 ∉ X:=by rw[hX];exact zmY (zdY _ _)
 have y46:46 ∉ Y:=by rw[hY];exact zmY (zaz _)
 have z46:46 ∉ Z:=by rw[hZ];exact zmY (zbv _)
 have hl:strL s=X++46::(Y++46::Z):=by
  rw[hs,hX,hY,hZ,hB];unfold zdv zdJ;rw[show zeW (hdrL k.1 kind) (strL payload)=encL (hdrL k.1 kind)++46::encL (strL payload)from rfl];simp
 have hlen:s.size=X.length+(Y.length+(Z.length+1)+1):=by rw[←zaQ,hl];simp
 have hpos:X.length+1+Y.length<i:=Nat.lt_of_not_le fun h=>by
  have:=dots_few (Z:=Z) x46 y46 h
  rw[←hl]at this;omega
 obtain⟨j,rfl⟩: ∃j,i=X.length+(Y.length+(j+1)+1):=⟨i-X.length-Y.length-2,by omega⟩
 have hj:j<Z.length:=by omega
 have et:strL t=X++46::(Y++46::Z.set j c):=by
  rw[ht,hl,List.set_append_right _ _ (by omega),show X.length+(Y.length+(j+1)+1)-X.length=(Y.length+(j+1))+1 by omega,List.set_cons_succ,
   List.set_append_right _ _ (by omega),show Y.length+(j+1)-Y.length=j+1 by omega,List.set_cons_succ]
 have hzj:Z.set j c≠Z:=fun e=>hne (by
  have e1:(strL s).getD (X.length+(Y.length+(j+1)+1)) 0=Z.getD j 0:=by
   rw[hl,List.getD_eq_getElem?_getD,List.getElem?_append_right (by omega),show X.length+(Y.length+(j+1)+1)-X.length=(Y.length+(j+1))+1 by omega,List.getElem?_cons_succ,
    List.getElem?_append_right (by omega),show Y.length+(j+1)-Y.length=j+1 by omega,List.getElem?_cons_succ,←List.getD_eq_getElem?_getD]
  rw[e1,←e,List.getD_eq_getElem?_getD,List.getElem?_set_self hj];rfl)
 have w46:46 ∉ Z.set j c:=fun hm=>by
  rcases List.mem_or_eq_of_mem_set hm with h|h
  ·exact z46 h
  ·exact hc h.symm
 rw[et]
 have e:zdX (X++46::(Y++46::Z.set j c))=[X,Y,Z.set j c]:=by rw[zet _ _ x46,zet _ _ y46,zgY _ w46]
 unfold cutL
 rw[e]
 show(match(if zas X= -1∧zas Y= -1∧zas (Z.set j c)= -1 then some (X,Y,Z.set j c)else none)with
  |none=>(([],[],80):List Int×List Int×Int)
  |some (a,b,c)=>verP ks kind a b c).2.2≠0
 by_cases hf:zas X= -1∧zas Y= -1∧zas (Z.set j c)= -1
 ·rw[if_pos hf]
  show(verP ks kind X Y (Z.set j c)).2.2≠0
  rw[hX,hY,verP_part hn hd (zaz _),if_neg (by simp),ring_find hr hk]
  have hmm: ¬macL (strL k.2) (zeW (hdrL k.1 kind) (strL payload))=decL (Z.set j c):=fun h=>hzj (by
   have e2:=enc_of_right _ hf.2.2
   rw[←h,←hB,←hZ]at e2
   exact e2.symm)
  simp only[if_neg hmm]
  decide
 ·rw[if_neg hf]
  show(80:Int)≠0
  decide
theorem signM_err {ks:List KeyM} {kind payload:ByteArray} (h:(zfk ks kind payload).2≠0):(zfk ks kind payload).1=[]:=by
 unfold zfk at h⊢
 split
 ·rfl
 ·split
  ·rfl
  ·split
   ·rfl
   ·split
    ·rfl
    ·rename_i a b c d
     rw[if_neg a,if_neg b,if_neg c,if_neg d]at h
     exact absurd rfl h
theorem sign_pos (k:KeyM) (kind payload:ByteArray):1≤(zdv k kind payload).length:=by
 unfold zdv zdJ;simp;omega
theorem dots_succ (l:List Int) (j:Nat) (h:j<l.length):zik (l.take (j+1))=zik (l.take j)+if l.getD j 0=46 then 1 else 0:=by
 unfold zik
 rw[List.take_add_one,List.getElem?_eq_getElem h,List.count_append,List.getD_eq_getElem?_getD,List.getElem?_eq_getElem h]
 simp only[Option.toList_some,Option.getD_some,List.count_cons,List.count_nil,Nat.zero_add,beq_iff_eq]
theorem dots_le (l:List Int) (j:Nat):zik (l.take j)≤j:=Nat.le_trans List.count_le_length (by rw[List.length_take];omega)
theorem grK_size {ms:List KeyM} (h:grK ms=false) {k:KeyM} (hk:k∈ms):k.1.size≤1000000∧k.2.size≤1000000:=by
 unfold grK at h
 have h1:=(Bool.or_eq_false_iff.1 h).2
 have h2:=List.any_eq_false.1 h1 k hk
 unfold bigK at h2
 simp at h2
 omega
theorem ring_ok {ks:List KeyM} (h:zbn ks=true):KeyOk ks:=fun k hk=>by
 have h1:=(zbl h).2.2 k hk
 have:=zcW h1.1
 exact⟨by omega,by omega⟩
theorem rot_ring {ks:List KeyM} {k:KeyM} (h:rotB ks k=true):zbn (zex ks k)=true:=by
 unfold rotB at h;rw[Bool.and_eq_true]at h;exact h.2
theorem frozen_bytes (w:World) (e:TypeId) (s:ByteArray) (j:Nat) (hj:j<s.size):(Lib.bytesWorld w e s).frozen? ⟨w.heap.size,j,none⟩=false:=by
 unfold World.frozen?
 simp only[Lib.bytesWorld_at_new]
 have:s.size≤(Lib.bytesCells w e s).size:=by simp[Lib.bytesCells]
 simp;omega
theorem bytes_at (w:World) (e:TypeId) (s:ByteArray) (j:Nat) (hj:j<s.size):(Lib.bytesWorld w e s).cell? ⟨w.heap.size,j,none⟩=some (.int .u8 ((strL s).getD j 0)):=by
 rw[Lib.bytesWorld_cell w e s j hj]
 have hj2:j<s.data.toList.length:=by simpa using hj
 simp[strL,List.getD,hj]
theorem set_lies {w:World} {g n i:Nat} {xs:List Int} {c:Int} (hn:xs.length=n) (hg:g<w.heap.size) (h: ∀j,j<n→w.cell? ⟨g,j,none⟩=some (.int .u8 (xs.getD j 0))) (hi:i<n):Lies (w.setCell ⟨g,i,none⟩ (.int .u8 c)) (some ⟨g,0,none⟩) (xs.set i c):=fun _=>
 ⟨g,0,rfl,by simp;omega,by simp;exact hg,fun j v hv=>by
  have hj:=(List.getElem?_eq_some_iff.1 hv).1
  rw[length_ints,List.length_set]at hj
  have hv2:=zaq .u8 (xs.set i c) j (by rw[List.length_set];exact hj)
  rw[hv2]at hv
  injection hv with hv
  rw[Nat.zero_add,←hv]
  by_cases hji:j=i
  ·subst hji
   rw[World.cell?_setCell_same' w ⟨g,j,none⟩ _ (by rw[h j hi];rfl),List.getD_eq_getElem?_getD,List.getElem?_set_self hj];rfl
  ·rw[show(w.setCell ⟨g,i,none⟩ (.int .u8 c)).cell? ⟨g,j,none⟩=w.cell? ⟨g,j,none⟩from World.cell?_setCell_other w ⟨g,i,none⟩ ⟨g,j,none⟩ _ (by intro e;injection e with _ e _;exact hji e.symm),h j (by omega),List.getD_eq_getElem?_getD,List.getD_eq_getElem?_getD,List.getElem?_set_ne (by omega)]⟩
theorem jwsBack_any (ks ms:List KeyM) (A B:Option Addr) (n c m d:Nat) (kind other payload:ByteArray) (ix tn:Int) (w:World) (ha0:0≤ix) (ha1:ix≤65535) (ht0:0≤tn) (ht1:tn≤255)
  (hn:ks.length=n) (hn9:n≤9223372036854775807) (hnc:n≤c) (hk:KeyOk ks) (hr:RingAt w A ks) (hm:ms.length=m) (hm9:m≤9223372036854775807) (hmd:m≤d) (hkm:KeyOk ms) (hrm:RingAt w B ms) (ha:Ask8 w):
  Calls Tryz.prog 6 #[.slice A n c,.slice B m d,.string kind,.string other,.string payload,.int .u16 ix,.int .u8 tn] w fun e w'=>e= .returned (.bool true)∧Below w.heap.size w w':=by
 have HAL:=Lib.hid (alive8_any w ha)
 have HGR:=Lib.hid (fun(W:World) (hW:Below w.heap.size w W)=>zhX ks A n c W hn hn9 (hr.below hW))
 have HGM:=Lib.hid (fun(W:World) (hW:Below w.heap.size w W)=>zhX ms B m d W hm hm9 (hrm.below hW))
 have HSG:=Lib.hid (fun(W:World) (hW:Below w.heap.size w W)=>Sign_any ks A n c kind payload W hn hn9 hnc hk (hr.below hW) (ha.below hW))
 have HVE:=Lib.hid (fun(kd text:ByteArray) (W:World) (hW:Below w.heap.size w W)=>ziZ ks A n c kd text W hn hn9 hnc hk (hr.below hW) (ha.below hW))
 have HTB:=Lib.hid (fun(W:World) (hW:Below w.heap.size w W)=>(ha.below hW).ask.tab)
 have HA8:=Lib.hid ha
 have HR:=Lib.hid hr
 have HRM:=Lib.hid hrm
 have HN:=Lib.hid hn
 have HM:=Lib.hid hm
 have HNC:=Lib.hid hnc
 have HIX:=Lib.hid (And.intro ha0 ha1)
 have HTN:=Lib.hid (And.intro ht0 ht1)
 obtain⟨gr,hgr⟩: ∃b,b=grK ks:=⟨_,rfl⟩
 obtain⟨gm,hgm⟩: ∃b,b=grK ms:=⟨_,rfl⟩
 rw[←hgr]at HGR
 rw[←hgm]at HGM
 have HGMK:=Lib.hid hgm
 have HBP:=Lib.hid (signM_parts (ks:=ks) (kind:=kind) (payload:=payload))
 clear ha hr hrm hk hkm hn hm hgr hgm ha0 ha1 ht0 ht1 hnc
 go_enter Tryz.func6,Tryz.ntmps6
 go_wp2_with(go_at_call 7;(with_reducible refine HAL.out.mono ?_);rintro e w1 ⟨rfl,hb⟩;have HB1:=Lib.hid hb;clear hb)
 cases gr with
 |true=>
  go_wp2_with(first
   |(go_at_call 7;(with_reducible refine HAL.out.mono ?_);rintro e w1 ⟨rfl,hb⟩;have HB1:=Lib.hid hb;clear hb)
   |(go_at_call 8;(with_reducible refine(HGR.out _ HB1.out).mono ?_);rintro e w2 ⟨rfl,hb⟩;have HB2:=Lib.hid (HB1.out.trans (hb.mono HB1.out.size));clear hb))
  go_ret
  exact⟨by first|rfl|simp,HB2.out⟩
 |false=>
 by_cases z0:1000<kind.size
 ·have q0:(1000:Int)<(kind.size:Int):=by omega
  go_wp2_with(first
   |(go_at_call 7;(with_reducible refine HAL.out.mono ?_);rintro e w1 ⟨rfl,hb⟩;have HB1:=Lib.hid hb;clear hb)
   |(go_at_call 8;(with_reducible refine(HGR.out _ HB1.out).mono ?_);rintro e w2 ⟨rfl,hb⟩;have HB2:=Lib.hid (HB1.out.trans (hb.mono HB1.out.size));clear hb))
  go_ret
  exact⟨by first|rfl|simp,HB2.out⟩
 have q0: ¬(1000:Int)<(kind.size:Int):=by omega
 by_cases z1:1000<other.size
 ·have q1:(1000:Int)<(other.size:Int):=by omega
  go_wp2_with(first
   |(go_at_call 7;(with_reducible refine HAL.out.mono ?_);rintro e w1 ⟨rfl,hb⟩;have HB1:=Lib.hid hb;clear hb)
   |(go_at_call 8;(with_reducible refine(HGR.out _ HB1.out).mono ?_);rintro e w2 ⟨rfl,hb⟩;have HB2:=Lib.hid (HB1.out.trans (hb.mono HB1.out.size));clear hb))
  go_ret
  exact⟨by first|rfl|simp,HB2.out⟩
 have q1: ¬(1000:Int)<(other.size:Int):=by omega
 by_cases z2:5000<payload.size
 ·have q2:(5000:Int)<(payload.size:Int):=by omega
  go_wp2_with(first
   |(go_at_call 7;(with_reducible refine HAL.out.mono ?_);rintro e w1 ⟨rfl,hb⟩;have HB1:=Lib.hid hb;clear hb)
   |(go_at_call 8;(with_reducible refine(HGR.out _ HB1.out).mono ?_);rintro e w2 ⟨rfl,hb⟩;have HB2:=Lib.hid (HB1.out.trans (hb.mono HB1.out.size));clear hb))
  go_ret
  exact⟨by first|rfl|simp,HB2.out⟩
 have q2: ¬(5000:Int)<(payload.size:Int):=by omega
 by_cases z3:8<m
 ·have q3:(8:Int)<(m:Int):=by omega
  go_wp2_with(first
   |(go_at_call 7;(with_reducible refine HAL.out.mono ?_);rintro e w1 ⟨rfl,hb⟩;have HB1:=Lib.hid hb;clear hb)
   |(go_at_call 8;(with_reducible refine(HGR.out _ HB1.out).mono ?_);rintro e w2 ⟨rfl,hb⟩;have HB2:=Lib.hid (HB1.out.trans (hb.mono HB1.out.size));clear hb))
  go_ret
  exact⟨by first|rfl|simp,HB2.out⟩
 have q3: ¬(8:Int)<(m:Int):=by omega
 cases gm with
 |true=>
  go_wp2_with(first
   |(go_at_call 7;(with_reducible refine HAL.out.mono ?_);rintro e w1 ⟨rfl,hb⟩;have HB1:=Lib.hid hb;clear hb)
   |(go_at_call 8;(with_reducible refine(HGR.out _ HB1.out).mono ?_);rintro e w2 ⟨rfl,hb⟩;have HB2:=Lib.hid (HB1.out.trans (hb.mono HB1.out.size));clear hb)
   |(go_at_call 8;(with_reducible refine(HGM.out _ HB2.out).mono ?_);rintro e w3 ⟨rfl,hb⟩;have HB3:=Lib.hid (HB2.out.trans (hb.mono HB2.out.size));clear hb))
  go_ret
  exact⟨by first|rfl|simp,HB3.out⟩
 |false=>
 have HSGp:Hid (∀k∈ms,k.1.size≤1000000∧k.2.size≤1000000):=Lib.hid (fun k hk=>grK_size HGMK.out.symm hk)
 clear HGMK HAL
 go_wp2_with(first
  |(go_at_call 8;(with_reducible refine(HGR.out _ HB1.out).mono ?_);rintro e w2 ⟨rfl,hb⟩;have HB2:=Lib.hid (HB1.out.trans (hb.mono HB1.out.size));clear hb)
  |(go_at_call 8;(with_reducible refine(HGM.out _ HB2.out).mono ?_);rintro e w3 ⟨rfl,hb⟩;have HB3:=Lib.hid (HB2.out.trans (hb.mono HB2.out.size));clear hb)
  |(go_at_call 9;fail))
 refine(HSG.out _ HB3.out).mono ?_
 rintro e w4 ⟨s,v,rfl,hs,hv,hb⟩
 have HB4:=Lib.hid (HB3.out.trans (hb.mono HB3.out.size));clear hb
 clear HGR HGM HSG z0 z1 z2 q0 q1 q2
 by_cases hz0:(zfk ks kind payload).2=0
 case neg=>
  obtain rfl:s=⟨#[]⟩:=zdb (by rw[hs,signM_err hz0];rfl)
  obtain⟨dd,xx,rfl⟩:=hv.iface hz0
  clear hs hv
  go_wp2_with fail
  go_ret
  exact⟨by first|rfl|simp,HB4.out⟩
 rw[hz0]at hv
 obtain rfl:=hv.nil
 obtain⟨hrg,hkd,hs1,hs2⟩:=HBP.out hz0
 rw[hs1]at hs
 obtain⟨l1,l2,l3⟩:=zbl hrg
 rw[HN.out]at l1 l2
 obtain⟨n',rfl⟩: ∃k,n=k+1:=⟨n-1,by omega⟩
 have hkl:n'<ks.length:=by rw[HN.out];omega
 have hlg:=last_get (ks:=ks) HN.out
 rw[hlg]at hs hs2
 have HAT:=Lib.hid (fun(W:World) (hW:Below w.heap.size w W)=>(HR.out.below hW).at hkl)
 obtain⟨b,o,rfl,hblt,hc0,hc1⟩:=HR.out.at hkl
 obtain⟨k,hk⟩: ∃k,k=ks[n']:=⟨_,rfl⟩
 rw[←hk]at hc0 hc1 hs hs2
 have HKM:Hid (k∈ks):=Lib.hid (by rw[hk];exact List.getElem_mem _)
 have HSZ:Hid (s.size≤4096∧1≤s.size):=Lib.hid (by rw[←zaQ,hs];exact⟨hs2,sign_pos _ _ _⟩)
 obtain⟨k1,k2⟩:=k
 have HS:=Lib.hid hs
 have HRG:=Lib.hid hrg
 have HKD:=Lib.hid hkd
 have HX:=Lib.hid (fun(W:World) (hW:Below w.heap.size w W)=>And.intro ((hW.cell (p:=⟨b,o+n'*2,none⟩) hblt).trans hc0) ((hW.cell (p:=⟨b,o+n'*2+1,none⟩) hblt).trans hc1))
 have hwr:IntKind.i64.wrap (((n'+1:Nat):Int)-1)=(n':Int):=by rw[IntKind.wrap_i64];omega
 have hi0:(0:Int)≤(n':Int):=by omega
 have hi1:(n':Int)<((n'+1:Nat):Int):=by omega
 have HL4:Hid (n'+1≤4):=Lib.hid l2
 clear hk hkl l1 l2 l3 hlg HAT hc0 hc1 hs hs1 hs2 hv hz0 HBP hrg hkd hblt
 obtain⟨x0,x1⟩:=HX.out _ HB4.out
 go_wp2_with fail
 clear x0 x1
 go_loopw[18,19] (fun v18 v19 wr=> ∃(i c':Nat) (A':Option Addr) (js:List KeyM),v19= .int .i64 (i:Int)∧i≤m∧v18= .slice A' js.length c'∧js.length≤c'∧Hid (zbn js=true∧RingAt wr A' js)∧Below w.heap.size w wr) (fun _ v19 _=>m-(intOf v19).toNat)
 case atStart=>exact⟨0,c,some ⟨b,o,none⟩,ks,rfl,Nat.zero_le _,by rw[HN.out],by rw[HN.out];exact HNC.out,Lib.hid ⟨HRG.out,HR.out.below HB4.out⟩,HB4.out⟩
 case round=>
  obtain⟨i,c',A',js,rfl,him,rfl,hjc,hjs,hbel⟩:=hrel
  have HBE:=Lib.hid hbel
  clear hbel
  by_cases hlt:i<m
  ·have hml:i<ms.length:=by rw[HM.out];exact hlt
   obtain⟨b2,o2,rfl,hb2,y0,y1⟩:=(HRM.out.below HBE.out).at hml
   obtain⟨q,hq⟩: ∃q,q=ms[i]:=⟨_,rfl⟩
   have hqz:=HSGp.out ms[i] (List.getElem_mem _)
   rw[←hq]at y0 y1 hqz
   obtain⟨q1,q2⟩:=q
   have hj4:=(zbl hjs.out.1).2.1
   have HRO:=Lib.hid (fun(W:World) (hW:Below wr.heap.size wr W)=>jwRotate_any js A' js.length c' (q1,q2) W rfl (by omega) hjc (ring_ok hjs.out.1) (hjs.out.2.below hW) hqz.1 hqz.2)
   have i0:(0:Int)≤(i:Int):=by omega
   have i1:(i:Int)<(m:Int):=by omega
   clear hq hml hqz hb2
   go_wp2_with(go_at_call 18;fail)
   refine(HRO.out _ (Below.refl _ _)).mono ?_
   rintro e w5 ⟨h|h,hb⟩
   ·obtain⟨hrot,g,N,cap,rfl,rfl,hcap,hg,hrr⟩:=h
    have HJ:Hid (zbn (zex js (q1,q2))=true∧RingAt w5 (some ⟨g,0,none⟩) (zex js (q1,q2))):=Lib.hid ⟨rot_ring hrot,hrr⟩
    have HB5:=Lib.hid (HBE.out.trans (hb.mono HBE.out.size))
    clear hb hrot hrr hg HRO y0 y1
    go_wp2_with fail
    go_roundw
    case rel=>exact⟨i+1,cap,some ⟨g,0,none⟩,zex js (q1,q2),by go_num,by omega,rfl,hcap,HJ,HB5.out⟩
    case measure=>simp[intOf];omega
   ·obtain⟨-,rfl⟩:=h
    have HJ:Hid (zbn js=true∧RingAt w5 A' js):=Lib.hid ⟨hjs.out.1,hjs.out.2.below hb⟩
    have HB5:=Lib.hid (HBE.out.trans (hb.mono HBE.out.size))
    clear hb HRO y0 y1
    go_wp2_with fail
    go_roundw
    case rel=>exact⟨i+1,c',A',js,by go_num,by omega,rfl,hjc,HJ,HB5.out⟩
    case measure=>simp[intOf];omega
  ·obtain rfl:i=m:=by omega
   have hii: ¬(i:Int)<(i:Int):=by omega
   obtain⟨Lj,hLj⟩: ∃L,L=js.length:=⟨_,rfl⟩
   have HLJ:=Lib.hid hLj
   rw[←hLj]at hjc⊢
   clear hLj
   have hL4:Lj≤4:=by rw[HLJ.out];exact(zbl hjs.out.1).2.1
   obtain⟨wo,rfl⟩: ∃W,W=wr:=⟨_,rfl⟩
   go_wp2_with fail
   go_loopw[22,23] (fun v22 v23 wq=> ∃(h:Bool) (j:Nat),v22= .bool h∧v23= .int .i64 (j:Int)∧j≤Lj∧Hid (h=true→(k1,k2)∈js)∧Below wo.heap.size wo wq) (fun _ v23 _=>Lj-(intOf v23).toNat)
   case atStart=>exact⟨false,0,rfl,rfl,Nat.zero_le _,Lib.hid (fun h=>by cases h),Below.refl _ _⟩
   case round=>
    obtain⟨h,j,rfl,rfl,hjL,hin,hbq⟩:=hrel
    have HBQ:=Lib.hid (HBE.out.trans (hbq.mono HBE.out.size))
    have HBR:=Lib.hid hbq
    clear hbq
    by_cases hlt:j<Lj
    ·have hjl:j<js.length:=by rw[←HLJ.out];exact hlt
     have HJ1:Hid (j+1≤Lj):=Lib.hid hlt
     have j0:(0:Int)≤(j:Int):=by omega
     have j1:(j:Int)<(Lj:Int):=by omega
     cases h with
     |true=>
      go_wp2_with fail
      go_quiet (fail)
      go_wp2
      go_roundw
      case rel=>exact⟨true,j+1,rfl,by go_num,HJ1.out,Lib.hid (fun _=>hin.out trivial),zaw HBR.out _⟩
      case measure=>have:=HJ1.out;simp[intOf];omega
     |false=>
      obtain⟨b3,o3,rfl,hb3,y0,y1⟩:=(hjs.out.2.below HBR.out).at hjl
      obtain⟨x0,x1⟩:=HX.out _ HBQ.out
      obtain⟨q,hq⟩: ∃q,q=js[j]:=⟨_,rfl⟩
      have HIN:Hid (q∈js):=Lib.hid (by rw[hq];exact List.getElem_mem _)
      rw[←hq]at y0 y1
      obtain⟨q1,q2⟩:=q
      clear hq hjl hb3
      by_cases he1:q1=k1
      ·subst he1
       by_cases he2:q2=k2
       ·subst he2
        go_wp2_with fail
        go_quiet (fail)
        go_wp2
        go_roundw
        case rel=>exact⟨true,j+1,rfl,by go_num,HJ1.out,Lib.hid (fun _=>HIN.out),zaw HBR.out _⟩
        case measure=>have:=HJ1.out;simp[intOf];omega
       ·have hne:(q2.toList==k2.toList)=false:=by rw[zcK];exact decide_eq_false he2
        go_wp2_with fail
        go_quiet (fail)
        go_wp2
        go_roundw
        case rel=>exact⟨false,j+1,rfl,by go_num,HJ1.out,Lib.hid (fun h=>by cases h),zaw HBR.out _⟩
        case measure=>have:=HJ1.out;simp[intOf];omega
      ·have hne:(q1.toList==k1.toList)=false:=by rw[zcK];exact decide_eq_false he1
       go_wp2_with fail
       go_quiet (fail)
       go_wp2
       go_roundw
       case rel=>exact⟨false,j+1,rfl,by go_num,HJ1.out,Lib.hid (fun h=>by cases h),zaw HBR.out _⟩
       case measure=>have:=HJ1.out;simp[intOf];omega
    ·obtain rfl:j=Lj:=by omega
     have hjj: ¬(j:Int)<(j:Int):=by omega
     have HVJ:=Lib.hid (ziZ js A' j c' kind s wr HLJ.out.symm (by have:=(zbl hjs.out.1).2.1;have:=HLJ.out;omega) hjc (ring_ok hjs.out.1) (hjs.out.2.below HBR.out) (HA8.out.below HBQ.out))
     have HVH:Hid (h=true→verM js kind s=(strL payload,strL k1,0)):=Lib.hid (fun hh=>ver_has hjs.out.1 (hin.out hh) HKD.out HS.out HSZ.out.1)
     clear hin hjs HLJ
     go_wp2_with(go_at_call 14;fail)
     refine HVJ.out.mono ?_
     rintro e w6 ⟨t,u,v,rfl,ht,hu,hv,hb⟩
     have HB6:=Lib.hid (HBQ.out.trans (hb.mono HBQ.out.size))
     clear hb HVJ
     go_upto_region 22 with fail
     go_cut[145]from 131 to 145 (fun v145 wx=>v145= .bool false∧wx=w6)
     case first=>
      cases h with
      |false=>
       go_wp2_with fail
       go_meet
       case rel=>exact⟨rfl,rfl⟩
      |true=>
       have hvv:=HVH.out rfl
       rw[hvv]at ht hu hv
       obtain rfl:=hv.nil
       obtain rfl:t=payload:=zdb ht
       obtain rfl:u=k1:=zdb hu
       have e1:(t.toList !=t.toList)=false:=by simp
       have e2:(u.toList !=u.toList)=false:=by simp
       clear ht hu hv hvv
       go_wp2_with fail
       go_meet
       case rel=>exact⟨rfl,rfl⟩
     case rest=>
      obtain⟨rfl,rfl⟩:=hcut
      clear ht hu hv HVH
      have HNM:=Lib.hid (fun W:World=>refName_any other W)
      obtain⟨nb,hnb⟩: ∃b,b=zbJ (strL other):=⟨_,rfl⟩
      rw[←hnb]at HNM
      have HNB:=Lib.hid hnb
      clear hnb
      obtain⟨cb,hcb⟩: ∃b,b=(nb&& !decide (other=kind)):=⟨_,rfl⟩
      have HCB:=Lib.hid hcb
      clear hcb
      obtain⟨w6,rfl⟩: ∃W,W=wc:=⟨_,rfl⟩
      go_upto_region 24 with fail
      go_cut[152]from 146 to 152 (fun v152 wx=>v152= .bool cb∧wx=w6)
      case first=>
       cases nb with
       |false=>
        have HC0:Hid (cb=false):=Lib.hid (by rw[HCB.out];rfl)
        go_wp2_with(go_at_call 16;(with_reducible refine(HNM.out _).mono ?_);rintro e w' ⟨rfl,rfl⟩)
        go_meet
        case rel=>exact⟨by rw[HC0.out],rfl⟩
       |true=>
       by_cases hok:other=kind
       ·have HC0:Hid (cb=false):=Lib.hid (by rw[HCB.out,decide_eq_true hok];rfl)
        have e2:(other.toList==kind.toList)=true:=by rw[zcK];exact decide_eq_true hok
        have e1:(other.toList !=kind.toList)=false:=by rw[bne,e2];rfl
        clear hok
        go_wp2_with(go_at_call 16;(with_reducible refine(HNM.out _).mono ?_);rintro e w' ⟨rfl,rfl⟩)
        go_meet
        case rel=>exact⟨by rw[HC0.out],rfl⟩
       ·have HC0:Hid (cb=true):=Lib.hid (by rw[HCB.out,decide_eq_false hok];rfl)
        have e2:(other.toList==kind.toList)=false:=by rw[zcK];exact decide_eq_false hok
        have e1:(other.toList !=kind.toList)=true:=by rw[bne,e2];rfl
        clear hok
        go_wp2_with(go_at_call 16;(with_reducible refine(HNM.out _).mono ?_);rintro e w' ⟨rfl,rfl⟩)
        go_meet
        case rel=>exact⟨by rw[HC0.out],rfl⟩
      case rest=>
      obtain⟨rfl,rfl⟩:=hcut
      have HVO:Hid (cb=true→verM ks other s=([],[],81)):=Lib.hid (fun h=>by
       rw[HCB.out,Bool.and_eq_true]at h
       exact ver_other HRG.out HKM.out HKD.out (by rw[←HNB.out];exact h.1) (fun e=>by rw[e]at h;simp at h) HS.out HSZ.out.1)
      clear HNM HNB HCB
      obtain⟨w6,rfl⟩: ∃W,W=wc:=⟨_,rfl⟩
      go_upto_if 152 with fail
      go_cut[]from 16 to 163 (fun wx=>Below w.heap.size w wx)
      case first=>
       cases cb with
       |false=>
        go_wp2_with fail
        go_meet
        case rel=>exact HB6.out
       |true=>
        have hvo:=HVO.out rfl
        have HVX:=Lib.hid (HVE.out other s _ HB6.out)
        unfold VTells at HVX
        rw[hvo]at HVX
        clear hvo
        go_wp2_with(first
         |(go_at_call 14;refine HVX.out.mono ?_;rintro e w7 ⟨t7,u7,v7,rfl,ht,hu,hv,hb⟩;have HB7:=Lib.hid (HB6.out.trans (hb.mono HB6.out.size));have HNE:=Lib.hid (numW hv (HTB.out w7 HB7.out));clear hb ht hu hv)
         |(go_at_call 12;(with_reducible refine HNE.out.mono ?_);rintro e w8 ⟨rfl,hb⟩;have HB8:=Lib.hid (HB7.out.trans (hb.mono HB7.out.size));clear hb))
        go_meet
        case rel=>exact HB8.out
      case rest=>
       have HBC:=Lib.hid hcut
       clear hcut
       obtain⟨z,hz⟩: ∃z,z=s.size:=⟨_,rfl⟩
       have HZ:=Lib.hid hz
       have hz1:1≤z:=by rw[hz];exact HSZ.out.2
       have hz2:z≤4096:=by rw[hz];exact HSZ.out.1
       obtain⟨i2,hi2⟩: ∃i:Nat,ix%(s.size:Int)=(i:Int):=⟨(ix%(s.size:Int)).toNat,by have h1:=Int.emod_nonneg ix (show(s.size:Int)≠0 by omega);omega⟩
       have hil:(i2:Int)<(s.size:Int):=by rw[←hi2];exact Int.emod_lt_of_pos ix (by omega)
       obtain⟨g8,hg8⟩: ∃g,g=wc.heap.size:=⟨_,rfl⟩
       have HCV:Hid (∀j,j<s.size→(Lib.bytesWorld wc 5 s).cell? ⟨g8,j,none⟩=some (.int .u8 ((strL s).getD j 0))):=Lib.hid (fun j hj=>by rw[hg8];exact bytes_at wc _ s j hj)
       have HFZ:Hid (∀j,j<s.size→(Lib.bytesWorld wc 5 s).frozen? ⟨g8,j,none⟩=false):=Lib.hid (fun j hj=>by rw[hg8];exact frozen_bytes wc _ s j hj)
       have HBW:Hid (Below w.heap.size w (Lib.bytesWorld wc 5 s)∧w.heap.size≤g8∧g8<(Lib.bytesWorld wc 5 s).heap.size):=Lib.hid ⟨HBC.out.trans ((zgd wc _ s).mono HBC.out.size),by rw[hg8];exact HBC.out.size,by rw[hg8,Lib.bytesWorld_size];omega⟩
       obtain⟨cz,hcz⟩: ∃c,c=sg (tn%64):=⟨_,rfl⟩
       have hsgi:=zdu .u8 (tn%64) (by omega) (by omega)
       rw[←hcz]at hsgi
       have HCZ:Hid (cz≠46∧45≤cz∧cz≤122):=Lib.hid (by rw[hcz];exact⟨sg_46 (by omega),sg_bd _ (by omega)⟩)
       have hix0:=HIX.out.1
       have htn0:=HTN.out.1
       have nz: ¬(s.size:Int)=0:=by omega
       have ip0:(0:Int)≤(i2:Int):=by omega
       have hcvx:(convert 9 46 (.string s)).run Tryz.prog wc= .ok (.slice (some ⟨g8,0,none⟩) s.size (grownCap wc s.size 0 5)) (Lib.bytesWorld wc 5 s):=by rw[hg8];exact Lib.run_convert_string_bytes wc _ _ 5 s Tryz.underlying9 Tryz.underlying46 Tryz.underlying5
       obtain⟨wB,hwB⟩: ∃W,W=Lib.bytesWorld wc 5 s:=⟨_,rfl⟩
       obtain⟨cB,hcB⟩: ∃q,q=grownCap wc s.size 0 5:=⟨_,rfl⟩
       have hcB2:s.size≤cB:=by rw[hcB];exact grownCap_ge wc s.size 0 5
       rw[←hwB,←hcB]at hcvx
       rw[←hwB]at HCV HFZ HBW
       clear hwB hcB hg8
       go_wp2_with fail
       rw[show(wrap64 ix).tmod (s.size:Int)=(i2:Int)from by
        have h1:wrap64 ix=ix:=by have:=HIX.out;unfold wrap64;omega
        rw[h1,Int.tmod_eq_emod_of_nonneg hix0,hi2]]
       rw[←hcz]
       have HI2:Hid (i2<s.size∧s.size≤4096):=Lib.hid ⟨by omega,HSZ.out.1⟩
       clear hcvx hsgi hcz nz hil hix0 htn0 hz1 hz2 hz HZ hi2
       go_loopw[33,34] (fun v33 v34 wq=> ∃j:Nat,v34= .int .i64 (j:Int)∧j≤i2∧v33= .int .i64 ((zik ((strL s).take j):Nat):Int)∧wq=wB) (fun _ v34 _=>i2-(intOf v34).toNat)
       case atStart=>exact⟨0,rfl,Nat.zero_le _,rfl,rfl⟩
       case round=>
        obtain⟨j,rfl,hji,rfl,rfl⟩:=hrel
        by_cases hlt:j<i2
        ·have HJ1:Hid (j+1≤i2):=Lib.hid hlt
         have hjs:=Nat.lt_trans hlt HI2.out.1
         have hx:=HCV.out j hjs
         have hds:=dots_succ (strL s) j (by rw[zaQ];exact hjs)
         have hdl:=dots_le (strL s) j
         have j0:(0:Int)≤(j:Int):=by omega
         have j1:(j:Int)<(s.size:Int):=by omega
         have j9:i2≤4096:=Nat.le_of_lt (Nat.lt_of_lt_of_le HI2.out.1 HI2.out.2)
         obtain⟨x,hxx⟩: ∃x,x=(strL s).getD j 0:=⟨_,rfl⟩
         obtain⟨dn,hdn⟩: ∃q,q=zik ((strL s).take j):=⟨_,rfl⟩
         rw[←hxx]at hx hds
         rw[←hdn]at hds hdl⊢
         have HDS:=Lib.hid hds
         clear hds hxx hdn
         by_cases h46:x=46
         ·subst h46
          have HD1:Hid (zik ((strL s).take (j+1))=dn+1):=Lib.hid (by rw[HDS.out,if_pos rfl])
          go_wp2_with fail
          go_roundw
          case rel=>exact⟨j+1,by go_num,HJ1.out,by rw[HD1.out];go_num,by first|rfl|trivial⟩
          case measure=>have:=HJ1.out;simp[intOf];omega
         ·have HD1:Hid (zik ((strL s).take (j+1))=dn):=Lib.hid (by rw[HDS.out,if_neg h46];rfl)
          have h46b:(x==46)=false:=by rw[beq_eq_false_iff_ne];exact h46
          go_wp2_with fail
          go_roundw
          case rel=>exact⟨j+1,by go_num,HJ1.out,by rw[HD1.out],by first|rfl|trivial⟩
          case measure=>have:=HJ1.out;simp[intOf];omega
        ·obtain rfl:j=i2:=by omega
         have hjj: ¬(j:Int)<(j:Int):=by omega
         have hx:=HCV.out j HI2.out.1
         have hfz:=HFZ.out j HI2.out.1
         have j1:(j:Int)<(s.size:Int):=by have:=HI2.out.1;omega
         have hdl:=dots_le (strL s) j
         have j9:j≤4096:=Nat.le_of_lt (Nat.lt_of_lt_of_le HI2.out.1 HI2.out.2)
         obtain⟨x,hxx⟩: ∃x,x=(strL s).getD j 0:=⟨_,rfl⟩
         obtain⟨dn,hdn⟩: ∃q,q=zik ((strL s).take j):=⟨_,rfl⟩
         rw[←hxx]at hx
         rw[←hdn]at hdl⊢
         have HXX:=Lib.hid hxx
         have HDN:=Lib.hid hdn
         clear hxx hdn
         by_cases h46:x=46
         ·subst h46
          go_wp2_with fail
          go_ret
          exact⟨by first|rfl|simp,HBW.out.1⟩
         have h46b:(x==46)=false:=by rw[beq_eq_false_iff_ne];exact h46
         by_cases hxc:x=cz
         ·subst hxc
          have hxq:(x==x)=true:=by simp
          go_wp2_with fail
          go_ret
          exact⟨by first|rfl|simp,HBW.out.1⟩
         have hxcb:(x==cz)=false:=by rw[beq_eq_false_iff_ne];exact hxc
         by_cases hd2:dn<2
         ·have hd3:(dn:Int)<2:=by omega
          go_wp2_with fail
          go_ret
          exact⟨by first|rfl|simp[hd3],HBW.out.1⟩
         have hd3: ¬(dn:Int)<2:=by omega
         have hli:=set_lies (w:=wr) (g:=g8) (n:=s.size) (i:=j) (xs:=strL s) (c:=cz) (zaQ s) HBW.out.2.2 HCV.out HI2.out.1
         have hbc:Below w.heap.size w (wr.setCell ⟨g8,j,none⟩ (.int .u8 cz)):=HBW.out.1.setCell (p:=⟨g8,j,none⟩) HBW.out.2.1 _
         obtain⟨T,hT⟩: ∃T,T=toS ((strL s).set j cz):=⟨_,rfl⟩
         have hTL:strL T=(strL s).set j cz:=by
          rw[hT]
          refine zcb (.of_mem fun y hy=> ?_)
          have hz2:=HCZ.out.2
          rcases List.mem_or_eq_of_mem_set hy with h|h
          ·exact(zaz s).mem h
          ·omega
         have hcvb:=zdo (some ⟨g8,0,none⟩) ((strL s).set j cz) s.size cB (wr.setCell ⟨g8,j,none⟩ (.int .u8 cz)) (by rw[List.length_set,zaQ]) hli
         rw[←hT]at hcvb
         have hnot:(verM ks kind T).2.2≠0:=ver_turned HRG.out HKM.out HKD.out HS.out HSZ.out.1 hTL HI2.out.1 HCZ.out.1 (by rw[←HXX.out];exact hxc) (by rw[←HDN.out];omega)
         have HVT:=Lib.hid (HVE.out kind T _ hbc)
         have HNT:=Lib.hid hnot
         have HBC9:=Lib.hid hbc
         clear hli hbc hT hTL hnot hxc h46 hd2 HXX HDN HCV HFZ hdl
         go_wp2_with(go_at_call 14;fail)
         refine HVT.out.mono ?_
         rintro e w9 ⟨t9,u9,v9,rfl,ht,hu,hv,hb⟩
         obtain⟨dd,xx,rfl⟩:=hv.iface HNT.out
         have HB9:=Lib.hid (HBC9.out.trans (hb.mono HBC9.out.size))
         clear hb ht hu hv HVT HNT
         go_wp2_with fail
         go_ret
         exact⟨by first|rfl|simp,HB9.out⟩
end Go.Proofs.YtceddodfddlncaaGreatDoor
