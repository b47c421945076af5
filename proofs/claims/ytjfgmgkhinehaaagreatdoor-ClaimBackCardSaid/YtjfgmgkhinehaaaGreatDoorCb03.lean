
import Derived.Test.YtjfgmgkhinehaaaGreatDoorCf01
import Derived.Test.YtjfgmgkhinehaaaGreatDoorCf09
import Derived.Test.YtjfgmgkhinehaaaGreatDoorCf23
import Derived.Test.YtjfgmgkhinehaaaGreatDoorCb01
set_option linter.all false
namespace Go.Proofs.YtjfgmgkhinehaaaGreatDoor
open Go Go.RowKit
theorem bld_new (w:World):IsBld w.heap.size w.heap.size [] (w.alloc (.cells #[.pointer none,.slice none 0 0] 128)):=
 .inl ⟨Nat.le_refl _,.slice none 0 0,heap_alloc_new w _,World.ownsRow_nil _ _ _ _,by simp[Value.ownBlock]⟩
end Go.Proofs.YtjfgmgkhinehaaaGreatDoor
namespace Go.Proofs.YtjfgmgkhinehaaaGreatDoor
open Go Go.RowKit
def textN (l:List ByteArray):List Int:=textG true l
set_option maxRecDepth 100000 in
set_option maxHeartbeats 4000000 in
theorem printS_any (v:Value) (ns:List ByteArray) (w:World) (h:SliceN w v ns) (hn:ns.length≤1000000) (ht:(textN ns).length≤1000000000):
  Calls Tryz.prog 55 #[v] w fun e w'=>e= .returned (.string (toS (textN ns)))∧Below w.heap.size w w':=by
 obtain⟨A,c,rfl,hc,hl,hok⟩:=h
 obtain⟨n,hnn⟩: ∃n,n=ns.length:=⟨_,rfl⟩
 rw[←hnn]at hc hn⊢
 have HN:=Lib.hid hnn
 have HL:=Lib.hid hl
 have HOK:=Lib.hid hok
 have HT:=Lib.hid ht
 obtain⟨T,hT⟩: ∃T,T=textN ns:=⟨_,rfl⟩
 rw[←hT]
 have HTT:=Lib.hid hT
 have HB0:Hid (∀W:World,IsBld W.heap.size W.heap.size (ints .u8 (textG true (ns.take 0))) (W.alloc (.cells #[.pointer none,.slice none 0 0] 128))):=Lib.hid (fun W=>by rw[List.take_zero];exact bld_new W)
 clear hnn hl hok ht hT
 go_enter Tryz.func55,Tryz.ntmps55
 go_wp2
 go_loopw[8] (fun i wr=> ∃k:Nat,k≤n∧i= .int .i64 (k:Int)∧IsBld w.heap.size w.heap.size (ints .u8 (textG true (ns.take k))) wr∧Below w.heap.size w wr) (fun i _=>n-(intOf i).toNat)
 case atStart=>exact⟨0,Nat.zero_le _,rfl,HB0.out w,belowAlloc _ _⟩
 case round=>
  clear HB0
  obtain⟨k,hk,rfl,hbld,hbel⟩:=hrel
  have HBL:=Lib.hid hbld
  have HBE:=Lib.hid hbel
  have hs0:=hbel.size
  clear hbld hbel
  by_cases hlt:k<n
  ·have hkl:k<ns.length:=by rw[←HN.out];exact hlt
   obtain⟨b,o,rfl,hbl,hcell0⟩:=HL.out.at hkl
   have hcell:=(HBE.out.cell (p:=⟨b,o+k,none⟩) hbl).trans hcell0
   have hi0:(0:Int)≤(k:Int):=by omega
   have HST:=Lib.hid (textG_snoc hkl)
   have HLN:Hid ((textG true (ns.take (k+1))).length≤1000000000):=Lib.hid (Nat.le_trans (textG_take_len ns (k+1)) HT.out)
   obtain⟨x,hx⟩: ∃x,x=ns[k]:=⟨_,rfl⟩
   rw[←hx]at hcell HST
   clear hx hkl hcell0
   cases k with
   |zero=>
    rw[if_pos rfl,List.append_nil]at HST
    rw[Nat.add_zero]at hcell
    have HW:=Lib.hid (writeS_any w.heap.size w.heap.size (ints .u8 (textG true (ns.take 0))) x wr HBL.out (by have:=HLN.out;rw[HST.out,List.length_append,length_strL]at this;rw[length_ints];omega) hs0)
    clear hbl
    go_wp2_with(go_at_call 88;(with_reducible refine HW.out.mono ?_);rintro e w2 ⟨rfl,hbd2,hb2⟩)
    have HBL2:Hid (IsBld w.heap.size w.heap.size (ints .u8 (textG true (ns.take (0+1)))) w2):=Lib.hid (by rw[HST.out,ints_append,←strCells_strL];exact hbd2)
    have HB2:=Lib.hid (HBE.out.trans hb2)
    clear hbd2 hb2
    go_roundw
    case rel=>exact⟨1,by omega,by go_num,HBL2.out,HB2.out⟩
    case measure=>simp[intOf];omega
   |succ j=>
    rw[if_neg (by omega)]at HST
    have hj2:(0:Int)<(j:Int)+1:=by omega
    have HW:=Lib.hid (writeS_any w.heap.size w.heap.size (ints .u8 (textG true (ns.take (j+1)))) ⟨#[32]⟩ wr HBL.out (by have:=HLN.out;rw[HST.out,List.length_append,List.length_append,length_strL]at this;rw[length_ints];have:(⟨#[32]⟩:ByteArray).size=1:=rfl;omega) hs0)
    have HW2:Hid (∀W,IsBld w.heap.size w.heap.size (ints .u8 (textG true (ns.take (j+1))++[32])) W→w.heap.size≤W.heap.size→Calls Tryz.prog 88 #[.pointer (some ⟨w.heap.size,0,none⟩),.string x] W fun e w'=>e= .returned (.tuple #[.int .i64 x.size,.nilIface])∧IsBld w.heap.size w.heap.size (ints .u8 (textG true (ns.take (j+1))++[32])++Lib.strCells x) w'∧Below w.heap.size W w'):=Lib.hid (fun W hW hs=>writeS_any w.heap.size w.heap.size _ x W hW (by have:=HLN.out;rw[HST.out,List.length_append,length_strL]at this;rw[length_ints];omega) hs)
    clear hbl
    have tok:True:=trivial
    go_wp2_with(first
     |(go_at_call 88;have _t:=tok;(with_reducible refine HW.out.mono ?_);rintro e w2 ⟨rfl,hbd2,hb2⟩;clear tok;have HBL2:Hid (IsBld w.heap.size w.heap.size (ints .u8 (textG true (ns.take (j+1))++[32])) w2):=Lib.hid (by rw[ints_append];exact hbd2);have HB2:=Lib.hid (HBE.out.trans hb2);clear hbd2 hb2)
     |(go_at_call 88;(with_reducible refine(HW2.out _ HBL2.out HB2.out.size).mono ?_);rintro e w3 ⟨rfl,hbd3,hb3⟩;have HBL3:Hid (IsBld w.heap.size w.heap.size (ints .u8 (textG true (ns.take (j+1+1)))) w3):=Lib.hid (by rw[HST.out,ints_append,←strCells_strL];exact hbd3);have HB3:=Lib.hid (HB2.out.trans hb3);clear hbd3 hb3))
    go_roundw
    case rel=>exact⟨j+2,by omega,by go_num,HBL3.out,HB3.out⟩
    case measure=>simp[intOf];omega
  ·obtain rfl:k=n:=by omega
   have HTA:Hid (textG true (ns.take k)=T):=Lib.hid (by rw[HN.out,List.take_length,HTT.out];rfl)
   rw[HTA.out]at HBL
   have HSTR:=Lib.hid (bldString w.heap.size w.heap.size T wr (by rw[HTT.out];exact textG_bytes _ _) HBL.out hs0)
   clear hlt
   go_wp2_with(go_at_call 89;(with_reducible refine HSTR.out.mono ?_);rintro e w2 ⟨rfl,hb2⟩;have HB2:=Lib.hid (HBE.out.trans hb2);clear hb2)
   go_ret
   exact⟨rfl,HB2.out⟩
end Go.Proofs.YtjfgmgkhinehaaaGreatDoor
namespace Go.Proofs.YtjfgmgkhinehaaaGreatDoor
open Go Go.RowKit
theorem strL_nm (s:ByteArray):strL s=(nmL s).map fun b=>(b.toNat:Int):=rfl
theorem no_blank {x:ByteArray} (h:nameB (strL x)=true):(32:UInt8) ∉ nmL x:=fun hm=>by
 unfold nameB at h
 rw[Bool.and_eq_true,List.all_eq_true]at h
 have:=h.2 32 (by rw[strL_nm];exact List.mem_map.2 ⟨32,hm,rfl⟩)
 revert this;decide
theorem textG_nm: ∀r:List ByteArray,textG false r=(r.flatMap fun y=>32::nmL y).map fun b=>(b.toNat:Int)
 |[]=>rfl
 |x::r=>by simp[textG,textG_nm r,strL_nm]
theorem text_nm (l:List ByteArray):nmL (toS (textN l))=match l with|[]=>[]|x::r=>nmL x++r.flatMap (fun y=>32::nmL y):=by
 cases l with
 |nil=>rfl
 |cons x r=>
  have e:toS (textN (x::r))=ofL (nmL x++r.flatMap (fun y=>32::nmL y)):=by
   refine strL_inj ?_
   rw[strL_toS (show Bytes (textN (x::r))from textG_bytes _ _),strL_nm (ofL _),nmL_ofL]
   simp[textN,textG,textG_nm,strL_nm]
  rw[e,nmL_ofL]
theorem check_parts {l:List ByteArray} (h:checkN l=true):RiseS l∧(∀x∈l,nameB (strL x)=true)∧l.length≤16:=by
 unfold checkN at h
 rw[Bool.and_eq_true]at h
 obtain⟨k1,_,k3⟩:=chkG_rise l none h.2
 exact⟨k1,k3,of_decide_eq_true h.1⟩
theorem back_text {l:List ByteArray} (h:checkN l=true):okW (textW (toS (textN l)))=true∧parseN (toS (textN l))=l∧(toS (textN l)).size≤100000:=by
 obtain⟨h1,h2,h3⟩:=check_parts h
 have hw:textW (toS (textN l))=l:=by
  unfold textW
  rw[size_toS]
  cases l with
  |nil=>rfl
  |cons x r=>
   have hx:=(nameB_len (h2 x (by simp))).1
   have hne: ¬(textN (x::r)).length=0:=by
    simp only[textN,textG,List.length_append]
    omega
   rw[if_neg hne]
   exact wordsU_names (x::r) (by simp) (fun y hy=>no_blank (h2 y hy)) _ (text_nm (x::r))
 have hok:okW (textW (toS (textN l)))=true:=by rw[hw];exact okW_good h2 (by rw[setS_self h1];exact h3)
 refine⟨hok,by rw[parsed_good hok,hw,setS_self h1],?_⟩
 rw[size_toS]
 have:=textG_len l true 32 (fun x hx=>name_size (h2 x hx))
 have:l.length*(32+1)≤16*33:=Nat.mul_le_mul h3 (Nat.le_refl _)
 unfold textN
 omega
end Go.Proofs.YtjfgmgkhinehaaaGreatDoor
