
import Derived.Test.YtceddodfddlncaaGreatDoorJb16
import Derived.Test.YtceddodfddlncaaGreatDoorJb18
import Derived.Test.YtceddodfddlncaaGreatDoorJb21
set_option maxRecDepth 100000
set_option maxHeartbeats 16000000
set_option linter.all false
namespace Go.Proofs.YtceddodfddlncaaGreatDoor
open Go Go.RowKit
theorem as_nil (v:Value) (w:World):Calls Tryz.prog 27 #[.nilIface,v] w fun e w'=>e= .returned (.bool false)∧w'=w:=by
 go_enter Tryz.func27,Tryz.ntmps27
 go_wp2
 go_ret
 exact⟨rfl,rfl⟩
theorem as_at (t:Nat) (b:Nat) (w:World) (hg:ErrTab w) (ht:w.cell? ⟨t,0,none⟩=some (.pointer none)) (hf:w.frozen? ⟨t,0,none⟩=false):
  Calls Tryz.prog 27 #[.iface 188 (.pointer (some ⟨b,0,none⟩)),.iface 261 (.pointer (some ⟨t,0,none⟩))] w fun e w'=>e= .returned (.bool true)∧w'.cell? ⟨t,0,none⟩=some (.pointer (some ⟨b,0,none⟩))∧w.grownBy w' (some t):=by
 refine(asA_of 188 (.pointer (some ⟨b,0,none⟩)) ⟨t,0,none⟩ (.pointer none) w true (fun W w'=>w'.cell? ⟨t,0,none⟩=some (.pointer (some ⟨b,0,none⟩))∧W.grownBy w' (some t)) hg ht hf (fun W a h1 h2 h3 h4=>asHitG ⟨b,0,none⟩ t ⟨t,0,none⟩ a _ _ W h1 h2 h3 rfl)).mono ?_
 rintro e w' ⟨h1,W,hW,h2,h3⟩
 exact⟨h1,h2,(zaX hW _).trans h3⟩
theorem grown_cell {w w':World} {b o:Nat} {v:Value} {row:Option Nat} (h:w.cell? ⟨b,o,none⟩=some v) (hg:w.grownBy w' row) (hr:some b≠row):w'.cell? ⟨b,o,none⟩=some v:=by
 have:=hg.block b (zaa h) hr
 unfold World.cell? at h⊢
 simp only[this]
 exact h
def ziX (w:World) (rb:Nat) (s:ByteArray) (i:Nat) (n:Int) (e:Ending) (w':World):Prop:=
 (¬badU (segL (strL s) i)<zcY (strL s) i-i∧e= .returned (.string (toS (segL (strL s) i)))∧zcg w w' rb s (zcY (strL s) i:Nat) n)∨
 (badU (segL (strL s) i)<zcY (strL s) i-i∧ziJ w rb (i+badU (segL (strL s) i):Nat) 50 e w')
theorem plain_any (rb:Nat) (s:ByteArray) (i:Nat) (n:Int) (w:World) (h:Rdr w rb s i n) (hg:GW w rb) (hi:i≤s.size) (hs:s.size≤1000000):
  Calls Tryz.prog 189 #[.pointer (some ⟨rb,0,none⟩)] w (ziX w rb s i n):=by
 have HLEN:=Lib.hid (zaQ s)
 have HW:=Lib.hid h
 have HG:=Lib.hid hg
 obtain⟨⟨c0,c1,c2⟩,f0,f1,f2⟩:=h.cells
 clear h hg
 go_enter Tryz.func189,Tryz.ntmps189
 go_wp2
 go_loopw[] (fun wr=> ∃k:Nat,i≤k∧k≤s.size∧zcY (strL s) i=zcY (strL s) k∧w.grownBy wr (some rb)∧Rdr wr rb s k n) (fun wr=>s.size-znQ wr rb)
 case atStart=>exact⟨i,Nat.le_refl _,hi,rfl,zaY _ _,HW.out⟩
 case round=>
  clear c0 c1 c2 f0 f1 f2
  obtain⟨k,hik,hk,hrun,hgr,hr⟩:=hrel
  have HRUN:=Lib.hid hrun
  have HGR:=Lib.hid hgr
  have HR:=Lib.hid hr
  have HA:=Lib.hid (zbi rb s k n wr hr hk hs)
  have HPOS:=Lib.hid (zde hr)
  obtain⟨⟨c0,c1,c2⟩,f0,f1,f2⟩:=Rdr.cells hr
  obtain⟨b0,b1⟩:=zmf s k
  have hsb:zdK (ahL (strL s) k)=zdK (atL (strL s) k):=by
   unfold ahL;split
   ·rename_i h;rw[h];decide
   ·rfl
  obtain⟨x,hx⟩: ∃x,x=ahL (strL s) k:=⟨_,rfl⟩
  rw[←hx]at HA b0 b1 hsb
  have HS:=Lib.hid (fun W:World=>self_any x W b0 b1)
  rw[hsb]at HS
  clear hrun hgr hr hx hsb
  by_cases hb:zdK (atL (strL s) k)=true
  ·have hlt:=zhs hb
   rw[HLEN.out]at hlt
   have HST:=Lib.hid (HRUN.out.trans (zis hb))
   rw[hb]at HS
   clear hb
   go_wp2_with(first|(go_at_call 160;(with_reducible refine HA.out.mono ?_);rintro e w' ⟨rfl,q,rfl⟩)|(go_at_call 203;(with_reducible refine(HS.out _).mono ?_);rintro e w' ⟨rfl,rfl⟩))
   go_roundw
   case rel=>exact⟨k+1,by omega,by omega,HST.out,HGR.out.trans (zag wr q rb 1 _),Rdr.goes (HR.out.drewN q) _⟩
   case measure=>
    have h1:=zde (i:=k+1) (Rdr.goes (HR.out.drewN q) ((k+1:Nat):Int))
    have e:((k+1:Nat):Int)=(k:Int)+1:=by omega
    rw[e]at h1
    rw[h1,HPOS.out];omega
  ·have hsp:zcY (strL s) i=k:=HRUN.out.trans (zek hb)
   have hseg:strL (s.extract i k)=segL (strL s) i:=by
    rw[zax]
    unfold segL
    rw[hsp,List.drop_take]
   have hsl:(s.extract i k).size=k-i:=by rw[ByteArray.size_extract];omega
   obtain⟨S,hS⟩: ∃S,S=s.extract i k:=⟨_,rfl⟩
   have HSX:=Lib.hid hS
   rw[←hS]at hseg hsl
   have HSEG:=Lib.hid hseg
   have HSL:=Lib.hid hsl
   have HSP:=Lib.hid hsp
   have hfalse:zdK (atL (strL s) k)=false:=by simpa using hb
   rw[hfalse]at HS
   have i0:(0:Int)≤(i:Int):=by omega
   have i1:(i:Int)≤(k:Int):=by omega
   have i2:(k:Int)≤(s.size:Int):=by omega
   have HCK:=Lib.hid (fun(A:Option Addr) (c:Nat) (W:World) (hm:Marks W) (hl:Lies W A (segL (strL s) i))=>check_any A (segL (strL s) i) S.size c W hm (by rw[←HSEG.out,zaQ]) (by rw[HSL.out];omega) (by rw[←HSEG.out];exact zaz S) hl)
   clear hb hfalse hseg hsl hsp hS
   go_wp2_with(first|(go_at_call 160;(with_reducible refine HA.out.mono ?_);rintro e w' ⟨rfl,q,rfl⟩)|(go_at_call 203;(with_reducible refine(HS.out _).mono ?_);rintro e w' ⟨rfl,rfl⟩))
   go_quiet (fail)
   rw[←HSX.out]
   have hgw:GW wr rb:=HG.out.grown HGR.out
   have HGW:=Lib.hid hgw
   have hbx:Below wr.heap.size wr ((wr.drewN (q+nq)).alloc (.cells #[.pointer none] 188)):=(zaw (Below.refl _ _) _).alloc (Nat.le_refl _) _
   have HBX:=Lib.hid hbx
   have htf:Blk ((wr.drewN (q+nq)).alloc (.cells #[.pointer none] 188)) wr.heap.size 188 [.pointer none]:=heap_alloc_new _ _
   have HTF:=Lib.hid htf
   clear hgw hbx htf
   by_cases hbad:badU (segL (strL s) i)<zcY (strL s) i-i
   ·have HBAD:=Lib.hid hbad
    have HCKx:Hid (∀(A:Option Addr) (c:Nat) (W:World),Marks W→Lies W A (strL S)→Calls Tryz.prog 197 #[.slice A S.size c] W (zmg (badU (segL (strL s) i):Int) W)):=Lib.hid (fun A c W hm hl=>(HCK.out A c W hm (by rw[←HSEG.out];exact hl)).mono fun e w' h=>by
     rcases h with⟨h1,_⟩|⟨_,h2⟩
     ·exfalso
      rw[←HSEG.out,zaQ,HSL.out,HSEG.out]at h1
      have:=HSP.out
      omega
     ·exact h2)
    obtain⟨B,hB⟩: ∃B,B=badU (segL (strL s) i):=⟨_,rfl⟩
    have hB2:B≤1000000:=by have:=HSP.out;omega
    rw[←hB]at HCKx
    have HB0:=Lib.hid hB
    clear hbad hB
    go_wp2_with(first|(refine zbj rfl (some 31) rfl _ _ 5 (.tmp 30) rfl S rfl Tryz.underlying9 Tryz.underlying46 Tryz.underlying5 ?_;intro A c w5 hlie hcap hb5;have HB5:=Lib.hid (HBX.out.trans (hb5.mono HBX.out.size));have HTF5:=Lib.hid (HTF.out.below hb5 HTF.out.lt);have HCC:=Lib.hid (HCKx.out A c w5 (Marks.below HGW.out.1 HB5.out) hlie);clear hb5 hlie hcap;try go_frame)|(go_at_call 197;(with_reducible refine HCC.out.mono ?_);rintro e w6 ⟨b,rfl,hp,hn,hle,hb6⟩;have HB6:=Lib.hid (HB5.out.trans (hb6.mono HB5.out.size));have HTF6:=Lib.hid (HTF5.out.below hb6 HTF5.out.lt);have HP6:=Lib.hid hp;have HLE:=Lib.hid (Nat.lt_of_lt_of_le HTF5.out.lt hle);have HAS:=Lib.hid (as_at wr.heap.size b w6 (ErrTab.below HGW.out.2.1 HB6.out) (HTF6.out.cell 0) (HTF6.out.frozen 0));clear hb6 hp hn hle)|(go_at_call 27;(with_reducible refine HAS.out.mono ?_);rintro e w7 ⟨rfl,htc,hg7⟩;have hpc:=grown_cell HP6.out hg7 (by intro e;injection e with e;have:=HLE.out;omega);have HG7:=Lib.hid hg7;clear hg7)|(go_at_call 130;(with_reducible refine(zbf _ _ _).mono ?_);rintro e w' ⟨rfl,rfl⟩))
    refine⟨rfl,.inr ⟨HBAD.out,?_,HGR.out.trans (zaX (HB6.out.grown HG7.out HB6.out.size (by intro k hk;injection hk with hk;omega)) _)⟩⟩
    rw[←HB0.out]
    rfl
   ·have HBAD:=Lib.hid hbad
    have HCKx:Hid (∀(A:Option Addr) (c:Nat) (W:World),Marks W→Lies W A (strL S)→Calls Tryz.prog 197 #[.slice A S.size c] W (fun e w'=>e= .returned .nilIface∧Below W.heap.size W w')):=Lib.hid (fun A c W hm hl=>(HCK.out A c W hm (by rw[←HSEG.out];exact hl)).mono fun e w' h=>by
     rcases h with⟨_,h2⟩|⟨h1,_⟩
     ·exact h2
     ·exfalso
      have hle:=badU_le' (segL (strL s) i)
      rw[←HSEG.out,zaQ,HSL.out,HSEG.out]at h1 hle
      have:=HSP.out
      omega)
    clear hbad
    go_wp2_with(first|(refine zbj rfl (some 31) rfl _ _ 5 (.tmp 30) rfl S rfl Tryz.underlying9 Tryz.underlying46 Tryz.underlying5 ?_;intro A c w5 hlie hcap hb5;have HB5:=Lib.hid (HBX.out.trans (hb5.mono HBX.out.size));have HCC:=Lib.hid (HCKx.out A c w5 (Marks.below HGW.out.1 HB5.out) hlie);clear hb5 hlie hcap;try go_frame)|(go_at_call 197;(with_reducible refine HCC.out.mono ?_);rintro e w6 ⟨rfl,hb6⟩;have HB6:=Lib.hid (HB5.out.trans (hb6.mono HB5.out.size));clear hb6)|(go_at_call 27;(with_reducible refine(as_nil _ _).mono ?_);rintro e w' ⟨rfl,rfl⟩))
    go_ret
    refine .inl ⟨HBAD.out,?_,HGR.out.trans (zaX HB6.out _),?_⟩
    ·rw[←HSEG.out,zin];rfl
    ·rw[HSP.out];exact Blk.below HR.out HB6.out HR.out.lt
theorem qOne_by {c:Int} (h:0≤c∧c≤255):Bytes (qOne c):= .of_mem fun x hx=>by
 unfold qOne hexS at hx
 split at hx
 ·simp only[List.mem_cons,List.not_mem_nil,or_false]at hx
  rcases hx with rfl|rfl|rfl|rfl|rfl|rfl
  ·decide
  ·decide
  ·decide
  ·decide
  ·split<;>omega
  ·split<;>omega
 ·split at hx
  ·simp only[List.mem_cons,List.not_mem_nil,or_false]at hx
   rcases hx with rfl|rfl<;>omega
  ·rw[List.mem_singleton]at hx;omega
theorem qB_by: ∀xs:List Int,Bytes xs→Bytes (qB xs)
 |[],_=> .of_mem (by simp[qB])
 |c::r,h=>by
  rw[zjr]
  exact(qOne_by (h.mem (by simp))).append (qB_by r (.of_mem fun x hx=>h.mem (List.mem_cons_of_mem _ hx)))
theorem quoteL_by (t:ByteArray):Bytes (zar (strL t)):=by
 rw[zen]
 have h:=qB_by _ (zaz t)
 exact .of_mem fun x hx=>by
  rcases List.mem_cons.1 hx with rfl|hx
  ·decide
  ·rcases List.mem_append.1 hx with hx|hx
   ·exact h.mem hx
   ·rw[List.mem_singleton]at hx;omega
theorem znf (o:Bool): ∀(ls:List J) (f:Bool) (k:List ByteArray),(∀x∈ls,Bytes (zao x))→Bytes (zam o f ls k)
 |[],_,_,_=>by rw[zam];exact .of_mem (by simp)
 |x::r,f,k,h=>by
  rw[zam]
  have h1:Bytes (if f=true then[]else[44]):=by split<;>exact .of_mem (by simp)
  have h2:Bytes (if o=true then zar (strL (k.headD ⟨#[]⟩))++[58]else[]):=by
   split
   ·exact(quoteL_by _).append (.of_mem (by simp))
   ·exact .of_mem (by simp)
  exact h1.append (h2.append ((h x (by simp)).append (znf o r false k.tail (fun y hy=>h y (List.mem_cons_of_mem _ hy)))))
theorem textL_by (j:J):Bytes (zao j):=by
 induction j using J.ind with
 |h kind n s l k ih=>
  rw[zao]
  split
  ·exact .of_mem (by decide)
  split
  ·split<;>exact .of_mem (by decide)
  split
  ·exact prL_bytes n
  split
  ·exact quoteL_by s
  split
  ·exact((Bytes.of_mem (by decide)).append (znf false l true k ih)).append (.of_mem (by decide))
  split
  ·exact((Bytes.of_mem (by decide)).append (znf true l true k ih)).append (.of_mem (by decide))
  ·exact .of_mem (by simp)
end Go.Proofs.YtceddodfddlncaaGreatDoor
