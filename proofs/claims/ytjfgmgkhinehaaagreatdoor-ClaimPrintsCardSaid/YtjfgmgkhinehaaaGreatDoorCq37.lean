
import Derived.Test.YtjfgmgkhinehaaaGreatDoorCq16
import Derived.Test.YtjfgmgkhinehaaaGreatDoorCq34
set_option maxRecDepth 100000
set_option maxHeartbeats 16000000
set_option linter.all false
namespace Go.Proofs.YtjfgmgkhinehaaaGreatDoor
open Go Go.RowKit
theorem bld_new (w:World):IsBld w.heap.size w.heap.size [] (w.alloc (.cells #[.pointer none,.slice none 0 0] 128)):=
 .inl ⟨Nat.le_refl _,.slice none 0 0,heap_alloc_new w _,World.ownsRow_nil _ _ _ _,by simp[Value.ownBlock]⟩
theorem chkG_rise: ∀(l:List ByteArray) (p:Option ByteArray),chkG p l=true→zfz l∧(∀q,p=some q→ ∀x∈l,ltS q x=true)∧ ∀x∈l,zbh (strL x)=true
 |[],_,_=>⟨rise_nil,(fun _ _ _ h=>by cases h),(fun _ h=>by cases h)⟩
 |x::r,p,h=>by
  simp only[chkG,Bool.and_eq_true]at h
  obtain⟨⟨h1,h2⟩,h3⟩:=h
  obtain⟨k1,k2,k3⟩:=chkG_rise r (some x) h3
  have hx:=k2 x rfl
  refine⟨rise_cons.2 ⟨hx,k1⟩,fun q hq z hz=> ?_,fun z hz=> ?_⟩
  ·subst hq
   rcases List.mem_cons.1 hz with rfl|hz
   ·exact h2
   ·exact ltS_trans h2 (hx z hz)
  ·rcases List.mem_cons.1 hz with rfl|hz
   ·exact h1
   ·exact k3 z hz
def zis (l:List ByteArray):List Int:=zbt true l
theorem printS_any (v:Value) (ns:List ByteArray) (w:World) (h:SliceN w v ns) (hn:ns.length≤1000000) (ht:(zis ns).length≤1000000000):
  Calls Tryz.prog 55 #[v] w fun e w'=>e= .returned (.string (toS (zis ns)))∧Below w.heap.size w w':=by
 obtain⟨A,c,rfl,hc,hl,hok⟩:=h
 obtain⟨n,hnn⟩: ∃n,n=ns.length:=⟨_,rfl⟩
 rw[←hnn]at hc hn⊢
 have HN:=Lib.hid hnn
 have HL:=Lib.hid hl
 have HOK:=Lib.hid hok
 have HT:=Lib.hid ht
 obtain⟨T,hT⟩: ∃T,T=zis ns:=⟨_,rfl⟩
 rw[←hT]
 have HTT:=Lib.hid hT
 have HB0:Hid (∀W:World,IsBld W.heap.size W.heap.size (ints .u8 (zbt true (ns.take 0))) (W.alloc (.cells #[.pointer none,.slice none 0 0] 128))):=Lib.hid (fun W=>by rw[List.take_zero];exact bld_new W)
 clear hnn hl hok ht hT
 go_enter Tryz.func55,Tryz.ntmps55
 go_wp2
 go_loopw[8] (fun i wr=> ∃k:Nat,k≤n∧i= .int .i64 (k:Int)∧IsBld w.heap.size w.heap.size (ints .u8 (zbt true (ns.take k))) wr∧Below w.heap.size w wr) (fun i _=>n-(intOf i).toNat)
 case atStart=>exact⟨0,Nat.zero_le _,rfl,HB0.out w,zaf _ _⟩
 case round=>
  clear HB0
  obtain⟨k,hk,rfl,hbld,hbel⟩:=hrel
  have HBL:=Lib.hid hbld
  have HBE:=Lib.hid hbel
  have hs0:=hbel.size
  clear hbld hbel
  by_cases hlt:k<n
  ·have hkl:k<ns.length:=by rw[←HN.out];exact hlt
   obtain⟨b,o,rfl,hbl,hcell0⟩:=HL.out.at hkl
   have hcell:=(HBE.out.cell (p:=⟨b,o+k,none⟩) hbl).trans hcell0
   have hi0:(0:Int)≤(k:Int):=by omega
   have HST:=Lib.hid (zlj hkl)
   have HLN:Hid ((zbt true (ns.take (k+1))).length≤1000000000):=Lib.hid (Nat.le_trans (zek ns (k+1)) HT.out)
   obtain⟨x,hx⟩: ∃x,x=ns[k]:=⟨_,rfl⟩
   rw[←hx]at hcell HST
   clear hx hkl hcell0
   cases k with
   |zero=>
    rw[if_pos rfl,List.append_nil]at HST
    rw[Nat.add_zero]at hcell
    have HW:=Lib.hid (zeQ w.heap.size w.heap.size (ints .u8 (zbt true (ns.take 0))) x wr HBL.out (by have:=HLN.out;rw[HST.out,List.length_append,zaX]at this;rw[length_ints];omega) hs0)
    clear hbl
    go_wp2_with(go_at_call 88;(with_reducible refine HW.out.mono ?_);rintro e w2 ⟨rfl,hbd2,hb2⟩)
    have HBL2:Hid (IsBld w.heap.size w.heap.size (ints .u8 (zbt true (ns.take (0+1)))) w2):=Lib.hid (by rw[HST.out,zbk,←zfX];exact hbd2)
    have HB2:=Lib.hid (HBE.out.trans hb2)
    clear hbd2 hb2
    go_roundw
    case rel=>exact⟨1,by omega,by go_num,HBL2.out,HB2.out⟩
    case measure=>simp[intOf];omega
   |succ j=>
    rw[if_neg (by omega)]at HST
    have hj2:(0:Int)<(j:Int)+1:=by omega
    have HW:=Lib.hid (zeQ w.heap.size w.heap.size (ints .u8 (zbt true (ns.take (j+1)))) ⟨#[32]⟩ wr HBL.out (by have:=HLN.out;rw[HST.out,List.length_append,List.length_append,zaX]at this;rw[length_ints];have:(⟨#[32]⟩:ByteArray).size=1:=rfl;omega) hs0)
    have HW2:Hid (∀W,IsBld w.heap.size w.heap.size (ints .u8 (zbt true (ns.take (j+1))++[32])) W→w.heap.size≤W.heap.size→Calls Tryz.prog 88 #[.pointer (some ⟨w.heap.size,0,none⟩),.string x] W fun e w'=>e= .returned (.tuple #[.int .i64 x.size,.nilIface])∧IsBld w.heap.size w.heap.size (ints .u8 (zbt true (ns.take (j+1))++[32])++Lib.strCells x) w'∧Below w.heap.size W w'):=Lib.hid (fun W hW hs=>zeQ w.heap.size w.heap.size _ x W hW (by have:=HLN.out;rw[HST.out,List.length_append,zaX]at this;rw[length_ints];omega) hs)
    clear hbl
    have tok:True:=trivial
    go_wp2_with(first
     |(go_at_call 88;have _t:=tok;(with_reducible refine HW.out.mono ?_);rintro e w2 ⟨rfl,hbd2,hb2⟩;clear tok;have HBL2:Hid (IsBld w.heap.size w.heap.size (ints .u8 (zbt true (ns.take (j+1))++[32])) w2):=Lib.hid (by rw[zbk];exact hbd2);have HB2:=Lib.hid (HBE.out.trans hb2);clear hbd2 hb2)
     |(go_at_call 88;(with_reducible refine(HW2.out _ HBL2.out HB2.out.size).mono ?_);rintro e w3 ⟨rfl,hbd3,hb3⟩;have HBL3:Hid (IsBld w.heap.size w.heap.size (ints .u8 (zbt true (ns.take (j+1+1)))) w3):=Lib.hid (by rw[HST.out,zbk,←zfX];exact hbd3);have HB3:=Lib.hid (HB2.out.trans hb3);clear hbd3 hb3))
    go_roundw
    case rel=>exact⟨j+2,by omega,by go_num,HBL3.out,HB3.out⟩
    case measure=>simp[intOf];omega
  ·obtain rfl:k=n:=by omega
   have HTA:Hid (zbt true (ns.take k)=T):=Lib.hid (by rw[HN.out,List.take_length,HTT.out];rfl)
   rw[HTA.out]at HBL
   have HSTR:=Lib.hid (bldString w.heap.size w.heap.size T wr (by rw[HTT.out];exact zdd _ _) HBL.out hs0)
   clear hlt
   go_wp2_with(go_at_call 89;(with_reducible refine HSTR.out.mono ?_);rintro e w2 ⟨rfl,hb2⟩;have HB2:=Lib.hid (HBE.out.trans hb2);clear hb2)
   go_ret
   exact⟨rfl,HB2.out⟩
theorem zkr {l:List ByteArray} (h:zdc l=true):zfz l∧(∀x∈l,zbh (strL x)=true)∧l.length≤16:=by
 unfold zdc at h
 rw[Bool.and_eq_true]at h
 obtain⟨k1,_,k3⟩:=chkG_rise l none h.2
 exact⟨k1,k3,of_decide_eq_true h.1⟩
end Go.Proofs.YtjfgmgkhinehaaaGreatDoor
