
import Derived.Shelf.Strings.Builder1
import Derived.Shelf.Small.Bits
import Derived.Shelf.Small.Strs
import Derived.Shelf.Small.Wraps
import Derived.Shelf.Strings.BuilderF
import Derived.Shelf.Strings.BuilderK
import Derived.Shelf.Strconv.Itoa0
import Derived.Shelf.LaysM
import Derived.Shelf.Strconv.Clone
import Derived.Shelf.Strings.Search1
import Derived.Shelf.Strings.Search2
import Derived.Shelf.Strings.Cut
import Derived.Shelf.Strings.Shaped
import Derived.Shelf.Sort.Plain
import Derived.Shelf.Strings.Prefix
import Derived.Shelf.Slices.Turned
import Derived.Shelf.Slices.Equal
import Derived.Ground.Names2Prog
import Derived.Shelf.Slices.Clone
import Derived.Shelf.Slices.CompactS
import Derived.Shelf.Slices.Cells
import Derived.Shelf.Slices.In.SortNone
import Derived.Shelf.Slices.Empties2
import Derived.Ground.SlgnProg
import Derived.Shelf.SlicesE.Clone
import Derived.Deep.RegionWith
import Derived.Lib.Builder
import Derived.Lib.AppendStr
import Derived.Lib.UnsafeStr
import Derived.Lib.Slices
import Derived.Lib.Walk
import Derived.Laws.Externs
import Derived.Test.YtjfgmgkhinehaaaGreatDoorCq48
set_option maxRecDepth 100000
set_option maxHeartbeats 16000000
set_option linter.all false
namespace Go.Proofs.YtjfgmgkhinehaaaGreatDoor
open Go Go.RowKit
theorem znt (s:ByteArray):(nmL s).length=s.size:=by unfold nmL;rw[Array.length_toList];rfl
theorem nmL_extract (s:ByteArray) (a b:Nat):nmL (s.extract a b)=((nmL s).drop a).take (b-a):=by
 simp only[nmL,ByteArray.data_extract,Array.toList_extract,List.extract_eq_take_drop]
theorem zkb (s:ByteArray) (a b:Nat):ofL (((nmL s).drop a).take (b-a))=s.extract a b:=by rw[←nmL_extract,ofL_nmL]
theorem nmL_get (s:ByteArray) (k:Nat) (h:k<s.size):(nmL s)[k]'(by rw[znt];exact h)=s[k]:=by
 simp only[nmL,Array.getElem_toList]
 rfl
theorem words_split (s:ByteArray) (f k:Nat) (hf:f≤k) (hk:k≤s.size) (hb:(32:UInt8) ∉ ((nmL s).drop f).take (k-f)):
  (k=s.size→zea ((nmL s).drop f)=[((nmL s).drop f).take (k-f)])∧
  (∀h:k<s.size,(s[k]=32→zea ((nmL s).drop f)=((nmL s).drop f).take (k-f)::zea ((nmL s).drop (k+1)))∧(s[k]≠32→(32:UInt8) ∉ ((nmL s).drop f).take (k+1-f))):=by
 have hd:(nmL s).drop f=((nmL s).drop f).take (k-f)++(nmL s).drop k:=by
  have:((nmL s).drop f).drop (k-f)=(nmL s).drop k:=by rw[List.drop_drop,show f+(k-f)=k by omega]
  rw[←this,List.take_append_drop]
 refine⟨fun h=> ?_,fun h=> ?_⟩
 ·have h0:(nmL s).drop k=[]:=List.drop_of_length_le (by rw[znt];omega)
  rw[h0,List.append_nil]at hd
  rw[zgi _ (by rw[hd];exact hb)]
  exact congrArg (fun x=>[x]) hd
 ·have h1:(nmL s).drop k=s[k]::(nmL s).drop (k+1):=by
   rw[List.drop_eq_getElem_cons (by rw[znt];exact h),nmL_get s k h]
  refine⟨fun he=> ?_,fun he hm=> ?_⟩
  ·rw[hd,h1,he,ziJ _ _ hb]
   congr 1
   rw[←he,←h1,←hd]
  ·have h2:((nmL s).drop f).take (k+1-f)=((nmL s).drop f).take (k-f)++[s[k]]:=by
    rw[show k+1-f=(k-f)+1 by omega,List.take_succ_eq_append_getElem (by rw[List.length_drop,znt];omega)]
    congr 2
    rw[List.getElem_drop]
    have:f+(k-f)=k:=by omega
    simp only[this]
    exact nmL_get s k h
   rw[h2,List.mem_append,List.mem_singleton]at hm
   rcases hm with hm|hm
   ·exact hb hm
   ·exact he hm.symm
theorem refSplit_any (s:ByteArray) (w:World) (hs:s.size≤20000):
  Calls Tryz.prog 96 #[.string s] w fun e w'=> ∃u,e= .returned u∧SliceN w' u (zda s)∧(zda s).length≤s.size+1∧Below w.heap.size w w':=by
 obtain⟨iS,hS0,hS1,hS2,hS3⟩:=info_parts infoStrR
 go_enter Tryz.func96,Tryz.ntmps96
 go_wp2
 go_loopw[3,4,5] (fun lv fv iv wr=> ∃(f k q:Nat) (ws:List ByteArray),fv= .int .i64 (f:Int)∧iv= .int .i64 (k:Int)∧q≤k∧f≤k∧NmOk ws∧wr.ownsRow w.heap.size 9 1 lv q (strV ws)∧Below w.heap.size w wr∧((k≤s.size∧(32:UInt8) ∉ ((nmL s).drop f).take (k-f)∧zda s=ws++(zea ((nmL s).drop f)).map ofL)∨(k=s.size+1∧zda s=ws))) (fun _ _ iv _=>s.size+1-(intOf iv).toNat)
 case atStart=>exact⟨0,0,0,[],rfl,rfl,Nat.le_refl _,Nat.le_refl _,.nil,World.ownsRow_nil _ _ _ _,Below.refl _ _,.inl ⟨Nat.zero_le _,by simp,rfl⟩⟩
 case round=>
  obtain⟨f,k,q,ws,rfl,rfl,hqk,hfk,hok,hown,hbel,⟨hks,hnb,hw⟩|⟨rfl,hw⟩⟩:=hrel
  ·have HOW:=Lib.hid hown
   have HBE:=Lib.hid hbel
   have HOK:=Lib.hid hok
   have hs0:=hbel.size
   have hsp:=words_split s f k hfk hks hnb
   have HNB:=Lib.hid hnb
   have HWD:=Lib.hid hw
   have hkI:(k:Int)≤(s.size:Int):=by omega
   have hfI:(f:Int)≤(k:Int):=by omega
   have hf0:(0:Int)≤(f:Int):=by omega
   have hk0:(0:Int)≤(k:Int):=by omega
   have HOK2:Hid (NmOk (ws++[s.extract f k])):=Lib.hid (fun x hx=>by
    rcases List.mem_append.1 hx with hx|hx
    ·exact hok x hx
    ·rw[List.mem_singleton.1 hx,ByteArray.size_extract];omega)
   clear hown hbel hok hnb hw
   by_cases hend:k=s.size
   ·subst hend
    have HW2:Hid (zda s=ws++[s.extract f s.size]):=Lib.hid (by rw[HWD.out,hsp.1 rfl];simp[zkb])
    have hlt':s.size<s.size+1:=by omega
    have hkk:s.size+1≤s.size+1:=by omega
    clear hsp
    go_wp2_with(at_builtin;refine wpList_append_own _ rfl _ _ 22 rfl w.heap.size 9 iS (.string ByteArray.empty) 1 16 Tryz.underlying22 hS0 hS1 hS2 hS3 rfl (by decide) _ q _ rfl (HOW.out.alloc _) ⟨wr.heap.size,0,none⟩ 1 1 [.string (s.extract f s.size)] rfl rfl (zeW _ _ _) (by simp[Value.oneCell']) (by unfold maxLen;omega) (by omega) (by simp;omega) ?_;intro v4 w4 hown4 hgrow4 hnil4)
    have HO5:Hid (w4.ownsRow w.heap.size 9 1 v4 (q+1) (strV (ws++[s.extract f s.size]))):=Lib.hid (by rw[zcW];exact hown4)
    have HB5:=Lib.hid ((HBE.out.alloc hs0 (.cells #[.string (s.extract f s.size)] 9)).grown hgrow4 (by simp;omega) (fun i hi=>(HOW.out.lt i hi).1))
    clear hown4 hgrow4 hnil4
    go_roundw
    case rel=>exact⟨s.size+1,s.size+1,q+1,ws++[s.extract f s.size],by go_num,by go_num,by omega,by omega,HOK2.out,HO5.out,HB5.out,.inr ⟨by omega,HW2.out⟩⟩
    case measure=>simp[intOf]
   ·have hlt:k<s.size:=by omega
    have heq:((k:Int)==(s.size:Int))=false:=by rw[beq_eq_false_iff_ne];omega
    have hkl:(k:Int)<(s.size:Int):=by omega
    have h2:=hsp.2 hlt
    by_cases h32:s[k]=32
    ·have q0:((s[k].toNat:Int)==32)=true:=by rw[h32];rfl
     have HW2:Hid (zda s=(ws++[s.extract f k])++(zea ((nmL s).drop (k+1))).map ofL):=Lib.hid (by rw[HWD.out,h2.1 h32];simp[zkb])
     clear hsp h2 h32 hend
     go_wp2_with(at_builtin;refine wpList_append_own _ rfl _ _ 22 rfl w.heap.size 9 iS (.string ByteArray.empty) 1 16 Tryz.underlying22 hS0 hS1 hS2 hS3 rfl (by decide) _ q _ rfl (HOW.out.alloc _) ⟨wr.heap.size,0,none⟩ 1 1 [.string (s.extract f k)] rfl rfl (zeW _ _ _) (by simp[Value.oneCell']) (by unfold maxLen;omega) (by omega) (by simp;omega) ?_;intro v4 w4 hown4 hgrow4 hnil4)
     have HO5:Hid (w4.ownsRow w.heap.size 9 1 v4 (q+1) (strV (ws++[s.extract f k]))):=Lib.hid (by rw[zcW];exact hown4)
     have HB5:=Lib.hid ((HBE.out.alloc hs0 (.cells #[.string (s.extract f k)] 9)).grown hgrow4 (by simp;omega) (fun i hi=>(HOW.out.lt i hi).1))
     clear hown4 hgrow4 hnil4
     go_roundw
     case rel=>exact⟨k+1,k+1,q+1,ws++[s.extract f k],by go_num,by go_num,by omega,by omega,HOK2.out,HO5.out,HB5.out,.inl ⟨by omega,by simp,HW2.out⟩⟩
     case measure=>simp[intOf];omega
    ·have q0:((s[k].toNat:Int)==32)=false:=by
      rw[beq_eq_false_iff_ne]
      intro e
      apply h32
      have:s[k].toNat=(32:UInt8).toNat:=by have:((32:UInt8).toNat:Int)=32:=rfl;omega
      exact UInt8.toNat_inj.1 this
     have HNB2:=Lib.hid (h2.2 h32)
     clear hsp h2 h32 hend
     go_wp2
     go_roundw
     case rel=>exact⟨f,k+1,q,ws,rfl,by go_num,by omega,by omega,HOK.out,HOW.out,HBE.out,.inl ⟨by omega,HNB2.out,HWD.out⟩⟩
     case measure=>simp[intOf];omega
  ·have HOW:=Lib.hid hown
   have HBE:=Lib.hid hbel
   have HOK:=Lib.hid hok
   have HWD:=Lib.hid hw
   have hgt: ¬(s.size:Int)+1≤(s.size:Int):=by omega
   clear hown hbel hok hw
   go_wp2
   go_ret
   rw[HWD.out]
   have hl:ws.length=q:=by have:=HOW.out.1;rw[zkf]at this;omega
   exact⟨_,rfl,SliceN.own HOW.out HOK.out,by omega,HBE.out⟩
theorem zlX (s:ByteArray) (w:World) (hs:s.size≤20000):
  Calls Tryz.prog 67 #[.string s] w fun e w'=> ∃v,e= .returned (.tuple #[v,.bool (okW (zcy s))])∧SliceN w' v (zcY s)∧Below w.heap.size w w':=by
 by_cases h0:s.size=0
 ·obtain rfl:s=⟨#[]⟩:=by
   obtain⟨d⟩:=s
   have:d.size=0:=h0
   rw[Array.eq_empty_of_size_eq_zero this]
  go_enter Tryz.func67,Tryz.ntmps67
  go_wp2
  go_ret2
  exact⟨_,rfl,SliceN.nil _,Below.refl _ _⟩
 ·have hne:(s.toList==(⟨#[]⟩:ByteArray).toList)=false:=by
   rw[show(⟨#[]⟩:ByteArray).toList=[]by rw[ByteArray.toList_eq],beq_eq_false_iff_ne,ByteArray.toList_eq]
   intro e
   apply h0
   show s.data.size=0
   rw[←Array.length_toList,e];rfl
  have HE:Hid (s.toList.isEmpty=false):=Lib.hid (by
   rw[List.isEmpty_eq_false_iff]
   intro e
   rw[e,show(⟨#[]⟩:ByteArray).toList=[]by rw[ByteArray.toList_eq]]at hne
   simp at hne)
  have hE:=HE.out
  have HTW:Hid (zcy s=zda s):=Lib.hid (by unfold zcy;rw[if_neg h0])
  have HSP:=Lib.hid (refSplit_any s w hs)
  obtain⟨K,hK⟩: ∃K,K=okW (zcy s):=⟨_,rfl⟩
  obtain⟨P,hP⟩: ∃P,P=zcY s:=⟨_,rfl⟩
  obtain⟨ws,hws⟩: ∃ws,ws=zda s:=⟨_,rfl⟩
  rw[←hK,←hP]
  rw[←hws]at HTW HSP
  have HK:Hid (K=okW ws):=Lib.hid (by rw[hK,HTW.out])
  have HP:Hid (P=if K=true then setS ws else[]):=Lib.hid (by rw[hP,hK];unfold zcY;rw[HTW.out])
  clear h0 hK hP hws HTW HE
  go_enter Tryz.func67,Tryz.ntmps67
  go_wp2_with fail
  refine HSP.out.mono ?_
  rintro e w1 ⟨u,rfl,⟨A,c,rfl,hc,hl,hok⟩,hwl,hb1⟩
  obtain⟨n,hnn⟩: ∃n,n=ws.length:=⟨_,rfl⟩
  have HSL:Hid (SliceN w1 (.slice A n c) ws):=Lib.hid (by rw[hnn];exact⟨A,c,rfl,hc,hl,hok⟩)
  rw[←hnn]at hc hwl⊢
  have HN:=Lib.hid hnn
  have HL:=Lib.hid hl
  have HB1:=Lib.hid hb1
  have hn9:n≤20001:=by omega
  clear hnn hl hb1 hok HSP hwl
  go_wp2
  go_loopw[5] (fun iv wr=> ∃k:Nat,k≤n∧iv= .int .i64 (k:Int)∧(∀x∈ws.take k,zbh (strL x)=true)∧Below w1.heap.size w1 wr) (fun iv _=>n-(intOf iv).toNat)
  case atStart=>exact⟨0,Nat.zero_le _,rfl,by simp,Below.refl _ _⟩
  case round=>
   obtain⟨k,hk,rfl,hall,hbel⟩:=hrel
   have HALL:=Lib.hid hall
   have HBE:=Lib.hid hbel
   clear hall hbel
   by_cases hlt:k<n
   ·have hkl:k<ws.length:=by rw[←HN.out];exact hlt
    obtain⟨b,o,rfl,_,hcell⟩:=(HL.out.below HBE.out).at hkl
    have hi0:(0:Int)≤(k:Int):=by omega
    have HNM:=Lib.hid (fun W=>zgr ws[k] W)
    have HMEM:=Lib.hid (List.getElem_mem hkl)
    have HTK:Hid (ws.take (k+1)=ws.take k++[ws[k]]):=Lib.hid (List.take_succ_eq_append_getElem hkl)
    obtain⟨x,hx⟩: ∃x,x=ws[k]:=⟨_,rfl⟩
    rw[←hx]at hcell HNM HMEM HTK
    clear hx hkl
    cases hnb:zbh (strL x)with
    |false=>
     have HBAD:Hid (K=false):=Lib.hid (by rw[HK.out];exact okW_bad HMEM.out hnb)
     rw[hnb]at HNM
     clear hnb
     go_wp2_with(go_at_call 60;(with_reducible refine(HNM.out _).mono ?_);rintro e w2 ⟨rfl,rfl⟩)
     go_ret2
     exact⟨.slice none 0 0,by rw[HBAD.out];rfl,by rw[HP.out,HBAD.out];exact SliceN.nil _,HB1.out.trans (HBE.out.mono HB1.out.size)⟩
    |true=>
     have HALL2:Hid (∀y∈ws.take (k+1),zbh (strL y)=true):=Lib.hid (fun y hy=>by
      rw[HTK.out]at hy
      rcases List.mem_append.1 hy with hy|hy
      ·exact HALL.out y hy
      ·rw[List.mem_singleton.1 hy];exact hnb)
     rw[hnb]at HNM
     clear hnb
     go_wp2_with(go_at_call 60;(with_reducible refine(HNM.out _).mono ?_);rintro e w2 ⟨rfl,rfl⟩)
     go_roundw
     case rel=>exact⟨k+1,by omega,by go_num,HALL2.out,HBE.out⟩
     case measure=>simp[intOf];omega
   ·obtain rfl:k=n:=by omega
    have HALLW:Hid (∀x∈ws,zbh (strL x)=true):=Lib.hid (fun x hx=>HALL.out x (by rw[HN.out,List.take_length];exact hx))
    have HAC:=Lib.hid (refAll_any (.slice A k c) (.slice none 0 0) ws [] wr (HSL.out.below HBE.out) (SliceN.nil wr) (by rw[←HN.out];omega) (by simp))
    have HB2:=Lib.hid (HB1.out.trans (HBE.out.mono HB1.out.size))
    rw[List.append_nil]at HAC
    clear hlt HALL HBE
    go_wp2_with fail
    refine HAC.out.mono ?_
    rintro e w3 ⟨v3,rfl,hs3,hb3⟩
    have HS3:=Lib.hid hs3
    obtain⟨A3,c3,rfl, -⟩:=hs3
    obtain⟨m,hm⟩: ∃m,m=(setS ws).length:=⟨_,rfl⟩
    rw[←hm]at HS3⊢
    have HM:=Lib.hid hm
    have HB3:=Lib.hid (HB2.out.trans (hb3.mono HB2.out.size))
    clear hb3 hm
    by_cases h16:16<m
    ·have hI:(16:Int)<(m:Int):=by omega
     have HBAD:Hid (K=false):=Lib.hid (by rw[HK.out,←List.append_nil ws];exact znn (by rw[←HM.out];exact h16))
     clear h16
     go_wp2
     go_ret2
     exact⟨.slice none 0 0,by rw[HBAD.out];rfl,by rw[HP.out,HBAD.out];exact SliceN.nil _,HB3.out⟩
    ·have hI: ¬(16:Int)<(m:Int):=by omega
     have HGOOD:Hid (K=true):=Lib.hid (by rw[HK.out];exact okW_good HALLW.out (by rw[←HM.out];omega))
     clear h16
     go_wp2
     go_ret2
     exact⟨_,by rw[HGOOD.out];rfl,by rw[HP.out,if_pos HGOOD.out];exact HS3.out,HB3.out⟩
end Go.Proofs.YtjfgmgkhinehaaaGreatDoor
