
import Derived.LaidEql
import Derived.Stop.Asserts
import Derived.RowKitTokens
import Derived.Shelf.Abstract
import Derived.Laws.EntriesVeiled
import Derived.Lib.Walk
import Derived.Lib.AppendZeros
import Derived.Test.YtceddodfddlncaaGreatDoorJb09
set_option maxRecDepth 100000
set_option maxHeartbeats 16000000
set_option linter.all false
namespace Go.Proofs.YtceddodfddlncaaGreatDoor
open Go Go.RowKit
theorem rightK_any (k:KeyM) (w:World) (hs:k.2.size≤9223372036854775807):
  Calls Tryz.prog 25 #[.agg #[.string k.1,.string k.2]] w fun e w'=>e= .returned (.bool (zjm k))∧Below w.heap.size w w':=by
 obtain⟨kid,sec⟩:=k
 obtain⟨b,hb⟩: ∃b,b=zbJ (strL kid):=⟨_,rfl⟩
 have HR:Hid (zjm (kid,sec)=(b&&decide (1≤sec.size∧sec.size≤128))):=Lib.hid (by rw[hb];rfl)
 have HN:=Lib.hid (fun W=>zlb kid W)
 rw[←hb]at HN
 clear hb
 rw[HR.out]
 cases b with
 |false=>
  go_enter Tryz.func25,Tryz.ntmps25
  go_wp2_with(go_at_call 48;(with_reducible refine(HN.out _).mono ?_);rintro e w' ⟨rfl,rfl⟩)
  go_ret
  exact⟨rfl,zad _ _⟩
 |true=>
  by_cases h1:sec=⟨#[]⟩
  ·subst h1
   go_enter Tryz.func25,Tryz.ntmps25
   go_wp2_with(go_at_call 48;(with_reducible refine(HN.out _).mono ?_);rintro e w' ⟨rfl,rfl⟩)
   go_ret
   exact⟨rfl,zad _ _⟩
  ·obtain⟨e1,e2,e3⟩:=str_fullW h1
   have HQ:Hid ((true&&decide (1≤sec.size∧sec.size≤128))=decide (sec.size≤128)):=Lib.hid (by
    rw[Bool.true_and];exact decide_eq_decide.2 ⟨fun h=>h.2,fun h=>⟨e3,h⟩⟩)
   rw[HQ.out]
   by_cases h2:sec.size≤128
   ·have h3:(sec.size:Int)≤128:=by omega
    rw[decide_eq_true h2]
    go_enter Tryz.func25,Tryz.ntmps25
    go_wp2_with(go_at_call 48;(with_reducible refine(HN.out _).mono ?_);rintro e w' ⟨rfl,rfl⟩)
    go_ret
    exact⟨by simp[h3],zad _ _⟩
   ·have h3: ¬(sec.size:Int)≤128:=by omega
    rw[decide_eq_false h2]
    go_enter Tryz.func25,Tryz.ntmps25
    go_wp2_with(go_at_call 48;(with_reducible refine(HN.out _).mono ?_);rintro e w' ⟨rfl,rfl⟩)
    go_ret
    exact⟨by simp[h3],zad _ _⟩
theorem kidIs_any (k:KeyM) (t:ByteArray) (B:Nat) (w:World) (hc:w.cell? ⟨B,0,none⟩=some (.string t)):
  Calls Tryz.prog 56 #[.agg #[.string k.1,.string k.2],.pointer (some ⟨B,0,none⟩)] w fun e w'=>e= .returned (.bool (decide (k.1=t)))∧Below w.heap.size w w':=by
 have hlt:=zaa hc
 have hc':(w.alloc (.cells #[.string k.1,.string k.2] 41)).cell? ⟨B,0,none⟩=some (.string t):=((zad w _).cell (p:=⟨B,0,none⟩) hlt).trans hc
 have he:=zcK k.1 t
 go_enter Tryz.func56,Tryz.ntmps56
 go_wp2
 go_ret
 exact⟨by first|rfl|rw[he],zad _ _⟩
theorem hasKid_drop (ks:List KeyM) (t:ByteArray) {i:Nat} (h:i<ks.length):zec (ks.drop i) t=(decide (ks[i].1=t)||zec (ks.drop (i+1)) t):=by
 rw[List.drop_eq_getElem_cons h];rfl
theorem indexK_any (ks:List KeyM) (A:Option Addr) (n c:Nat) (t:ByteArray) (B:Nat) (w:World) (hn:ks.length=n) (hn9:n≤1000000) (hr:RingAt w A ks) (hc:w.cell? ⟨B,0,none⟩=some (.string t)):
  Calls Tryz.prog 87 #[.slice A n c,.func (.func 56) #[] #[.pointer (some ⟨B,0,none⟩)]] w fun e w'=> ∃r:Int,e= .returned (.int .i64 r)∧decide (0≤r)=zec ks t∧Below w.heap.size w w':=by
 have HN:=Lib.hid hn
 have HR:=Lib.hid hr
 have HC:=Lib.hid hc
 have hlt:=zaa hc
 have eg: ∀args w,(callFunc 56 args).run Tryz.prog w= .ok (.enter 56 args) w:=enters_of Tryz.func56 (by kernel_rfl) rfl
 clear hn hr hc
 go_enter Tryz.func87,Tryz.ntmps87
 go_wp2
 go_loopw[8] (fun i wr=> ∃k:Nat,k≤n∧i= .int .i64 (k:Int)∧zec ks t=zec (ks.drop k) t∧Below w.heap.size w wr) (fun i _=>n-(intOf i).toNat)
 case atStart=>exact⟨0,Nat.zero_le _,rfl,rfl,Below.refl _ _⟩
 case round=>
  obtain⟨k,hk,rfl,hrun,hbel⟩:=hrel
  have HBE:=Lib.hid hbel
  have HRUN:=Lib.hid hrun
  clear hbel hrun
  by_cases hlt2:k<n
  ·have hkl:k<ks.length:=by rw[HN.out];exact hlt2
   obtain⟨b,o,rfl,_,c0,c1⟩:=(HR.out.below HBE.out).at hkl
   have HD:=Lib.hid (hasKid_drop ks t hkl)
   obtain⟨q,hq⟩: ∃q,q=ks[k]:=⟨_,rfl⟩
   rw[←hq]at c0 c1 HD
   have HCALL:=Lib.hid (kidIs_any q t B wr ((HBE.out.cell (p:=⟨B,0,none⟩) hlt).trans HC.out))
   obtain⟨q1,q2⟩:=q
   have hi0:(0:Int)≤(k:Int):=by omega
   have hi1:(k:Int)<(n:Int):=by omega
   obtain⟨bb,hbb⟩: ∃bb,bb=decide (q1=t):=⟨_,rfl⟩
   rw[show decide ((q1,q2).1=t)=bb from hbb.symm]at HCALL HD
   clear hq hkl hbb
   go_wp2_with fail
   refine HCALL.out.mono ?_
   rintro e w1 ⟨rfl,hb⟩
   have HB:=Lib.hid (HBE.out.trans (hb.mono HBE.out.size))
   clear hb
   cases bb with
   |true=>
    go_wp2
    go_ret
    exact⟨_,rfl,by rw[HRUN.out,HD.out,Bool.true_or];simp,HB.out⟩
   |false=>
    go_wp2
    go_roundw
    case rel=>exact⟨k+1,by omega,by go_num,by rw[HRUN.out,HD.out,Bool.false_or],HB.out⟩
    case measure=>simp[intOf];omega
  ·obtain rfl:k=n:=by omega
   have hi1: ¬(k:Int)<(k:Int):=by omega
   go_wp2
   go_ret
   exact⟨_,rfl,by rw[HRUN.out,List.drop_of_length_le (Nat.le_of_eq HN.out)];rfl,HBE.out⟩
theorem hasKid_any (ks:List KeyM) (A:Option Addr) (n c:Nat) (t:ByteArray) (w:World) (hn:ks.length=n) (hn9:n≤1000000) (hr:RingAt w A ks):
  Calls Tryz.prog 26 #[.slice A n c,.string t] w fun e w'=>e= .returned (.bool (zec ks t))∧Below w.heap.size w w':=by
 have HI:=Lib.hid (fun(W:World) (hb:Below w.heap.size w W) (h:W.cell? ⟨w.heap.size,0,none⟩=some (.string t))=>indexK_any ks A n c t w.heap.size W hn hn9 (hr.below hb) h)
 have HB0:=Lib.hid (zad w (.cells #[.string t] 9))
 clear hr hn
 have hcx:Calls Tryz.prog 55 #[.slice A n c,.func (.func 56) #[] #[.pointer (some ⟨w.heap.size,0,none⟩)]] (w.alloc (.cells #[.string t] 9)) fun e w'=>e= .returned (.bool (zec ks t))∧Below w.heap.size w w':=by
  go_enter Tryz.func55,Tryz.ntmps55
  go_wp2_with fail
  refine(HI.out _ HB0.out (by simp)).mono ?_
  rintro e w1 ⟨r,rfl,hd,hb⟩
  have HD:=Lib.hid hd
  have HB:=Lib.hid (HB0.out.trans (hb.mono HB0.out.size))
  clear hd hb
  go_wp2
  go_ret
  exact⟨by rw[←HD.out];rfl,HB.out⟩
 have HCX:=Lib.hid hcx
 clear hcx HI
 go_enter Tryz.func26,Tryz.ntmps26
 go_wp2_with fail
 refine HCX.out.mono ?_
 rintro e w1 ⟨rfl,hb⟩
 have HB:=Lib.hid hb
 clear hb
 go_wp2
 go_ret
 exact⟨rfl,HB.out⟩
def zoX (ks:List KeyM) (w:World) (e:Ending) (w':World):Prop:=e= .returned (if zbn ks=true then .nilIface else .iface 54 (.int .i64 83))∧Below w.heap.size w w'
theorem zgc (ks:List KeyM) (A:Option Addr) (n c:Nat) (w:World) (hn:ks.length=n) (hn9:n≤9223372036854775807) (hnc:n≤c) (hk:KeyOk ks) (hr:RingAt w A ks):
  Calls Tryz.prog 11 #[.slice A n c] w (zoX ks w):=by
 have HN:=Lib.hid hn
 by_cases hlen:1≤n∧n≤4
 case neg=>
  have HR:Hid (zbn ks=false):=Lib.hid (ring_len (by rw[hn];exact hlen))
  unfold zoX
  rw[if_neg (by rw[HR.out];decide)]
  by_cases h0:n=0
  ·subst h0
   go_enter Tryz.func11,Tryz.ntmps11
   go_wp2
   go_ret
   exact⟨rfl,Below.refl _ _⟩
  ·have e0:((n:Int)==0)=false:=by rw[beq_eq_false_iff_ne];omega
   have e1:(4:Int)<(n:Int):=by omega
   have e2: ¬(n:Int)=0:=by omega
   go_enter Tryz.func11,Tryz.ntmps11
   go_wp2
   go_ret
   exact⟨rfl,Below.refl _ _⟩
 case pos=>
  have HR:=Lib.hid hr
  have HK:=Lib.hid hk
  obtain⟨l1,l2⟩:=hlen
  have e0:((n:Int)==0)=false:=by rw[beq_eq_false_iff_ne];omega
  have e1: ¬(4:Int)<(n:Int):=by omega
  have e2: ¬(n:Int)=0:=by omega
  have d1:decide ((4:Int)<(n:Int))=false:=decide_eq_false e1
  clear hr hk hn
  go_enter Tryz.func11,Tryz.ntmps11
  go_wp2
  go_loopw[16] (fun i wr=> ∃k:Nat,k≤n∧i= .int .i64 (k:Int)∧znn ks k=true∧Below w.heap.size w wr) (fun i _=>n-(intOf i).toNat)
  case atStart=>exact⟨0,Nat.zero_le _,rfl,rfl,Below.refl _ _⟩
  case round=>
   obtain⟨k,hk,rfl,hfine,hbel⟩:=hrel
   have HBE:=Lib.hid hbel
   have HF:=Lib.hid hfine
   clear hbel hfine
   by_cases hlt2:k<n
   ·have hkl:k<ks.length:=by rw[HN.out];exact hlt2
    obtain⟨b,o,rfl,_,c0,c1⟩:=(HR.out.below HBE.out).at hkl
    have HS:=Lib.hid (zgV hkl)
    have HBD:=Lib.hid (fun h=>ring_bad (ks:=ks) hkl h)
    have HSZ:=Lib.hid (HK.out.get hkl)
    obtain⟨q,hq⟩: ∃q,q=ks[k]:=⟨_,rfl⟩
    rw[←hq]at c0 c1 HS HBD HSZ
    have HRK:=Lib.hid (fun W=>rightK_any q W HSZ.out.2)
    have HHK:=Lib.hid (fun(W:World) (h:Below wr.heap.size wr W)=>hasKid_any (ks.take k) (some ⟨b,o,none⟩) k c q.1 W (by rw[List.length_take];omega) (by omega) (((HR.out.below HBE.out).below h).take k))
    obtain⟨q1,q2⟩:=q
    obtain⟨bb,hbb⟩: ∃bb,bb=zjm (q1,q2):=⟨_,rfl⟩
    obtain⟨hh,hhh⟩: ∃hh,hh=zec (ks.take k) q1:=⟨_,rfl⟩
    rw[←hbb]at HRK HS HBD
    rw[show zec (ks.take k) (q1,q2).1=hh from hhh.symm]at HHK HS HBD
    have hi0:(0:Int)≤(k:Int):=by omega
    have hi1:(k:Int)<(n:Int):=by omega
    have hkc:(k:Int)≤(c:Int):=by omega
    have hkc2:k≤c:=by omega
    have HW1:Hid (Below wr.heap.size wr (wr.alloc (.cells #[.string q1,.string q2] 41)).drew):=Lib.hid (zad _ _).drew
    have x0:(wr.alloc (.cells #[.string q1,.string q2] 41)).cell? ⟨wr.heap.size,0,none⟩=some (.string q1):=by simp
    have x1:(wr.alloc (.cells #[.string q1,.string q2] 41)).cell? ⟨wr.heap.size,1,none⟩=some (.string q2):=by simp
    clear hq hkl hbb hhh HSZ
    go_wp2_with fail
    refine wp_region_held_drew (S:=fun X=>X.cell? ⟨wr.heap.size,0,none⟩=some (.string q1)∧X.cell? ⟨wr.heap.size,1,none⟩=some (.string q2)) (by kernel_rfl) ⟨x0,x1⟩ (fun hHeld=> ?_)
    refine rgT 0 ?_
    try simp only[rgS]
    refine rgO 1 (fun K hK=> ?_)
    go_simp
    go_at_call 25
    (with_reducible refine(HRK.out _).mono ?_)
    rintro e w2 ⟨rfl,hb⟩
    have HB2:=Lib.hid (HW1.out.trans (hb.mono HW1.out.size))
    have y0:=(hb.cell (zaa x0)).trans x0
    have y1:=(hb.cell (zaa x1)).trans x1
    clear hb
    refine hK.out _ _ ⟨y0,y1⟩ (fun hH2=> ?_)
    clear hK K hHeld
    try simp only[rgS]
    refine rgT 2 ?_
    try simp only[rgS]
    refine rgT 3 ?_
    try simp only[rgS]
    cases bb with
    |false=>
     refine rgU 4 ?_
     try simp only[rgS]
     refine rgU 5 ?_
     try simp only[rgS]
     refine rgU 6 ?_
     try simp only[rgS]
     refine rgU 7 ?_
     try simp only[rgS]
     refine rgU 8 ?_
     try simp only[rgS]
     refine rgU 9 ?_
     try simp only[rgS]
     refine rgT 10 ?_
     try simp only[rgS]
     refine wpAnyH_done (by kernel_rfl) ?_ _
     have HR:Hid (zbn ks=false):=Lib.hid (HBD.out (by simp))
     go_wp2
     go_ret
     exact⟨by rw[if_neg (by rw[HR.out];decide)];rfl,HBE.out.trans (HB2.out.mono HBE.out.size)⟩
    |true=>
     refine rgT 4 ?_
     try simp only[rgS]
     refine rgT 5 ?_
     try simp only[rgS]
     refine rgT 6 ?_
     try simp only[rgS]
     refine rgT 7 ?_
     try simp only[rgS]
     refine rgT 8 ?_
     try simp only[rgS]
     refine rgO 9 (fun K hK=> ?_)
     go_simp
     go_at_call 26
     (with_reducible refine(HHK.out _ HB2.out).mono ?_)
     rintro e w3 ⟨rfl,hb⟩
     have HB3:=Lib.hid (HB2.out.trans (hb.mono HB2.out.size))
     refine hK.out _ _ ⟨(hb.cell (zaa y0)).trans y0,(hb.cell (zaa y1)).trans y1⟩ (fun hH3=> ?_)
     clear hK K hb
     try simp only[rgS]
     refine rgT 10 ?_
     try simp only[rgS]
     refine wpAnyH_done (by kernel_rfl) ?_ _
     cases hh with
     |true=>
      have HR:Hid (zbn ks=false):=Lib.hid (HBD.out (by simp))
      go_wp2
      go_ret
      exact⟨by rw[if_neg (by rw[HR.out];decide)];rfl,HBE.out.trans (HB3.out.mono HBE.out.size)⟩
     |false=>
      go_wp2
      go_roundw
      case rel=>exact⟨k+1,by omega,by go_num,by rw[HS.out,HF.out];rfl,HBE.out.trans (HB3.out.mono HBE.out.size)⟩
      case measure=>simp[intOf];omega
   ·obtain rfl:k=n:=by omega
    have hi1: ¬(k:Int)<(k:Int):=by omega
    go_wp2
    go_ret
    have:zbn ks=true:=by unfold zbn;rw[HN.out,HF.out,decide_eq_true ⟨l1,l2⟩];rfl
    exact⟨by rw[if_pos this];rfl,HBE.out⟩
def UnlAt (w:World) (b:Nat) (no:Int) (found:ByteArray) (q:Nat) (first caps:Array Value):Prop:=
 w.cell? ⟨b+2,0,none⟩=some (.func (.func q) first caps)∧w.cell? ⟨b,0,none⟩=some (.int .i64 no)∧w.cell? ⟨b+1,0,none⟩=some (.string found)
abbrev unlV (b:Nat):Value:= .func (.func 61) #[] #[.pointer (some ⟨b+2,0,none⟩),.pointer (some ⟨b,0,none⟩),.pointer (some ⟨b+1,0,none⟩)]
theorem UnlAt.grown {w w':World} {b:Nat} {no:Int} {found:ByteArray} {q:Nat} {first caps:Array Value} {row:Option Nat} (h:UnlAt w b no found q first caps) (hg:w.grownBy w' row) (h0:some b≠row) (h1:some (b+1)≠row) (h2:some (b+2)≠row):UnlAt w' b no found q first caps:=
 ⟨hg.cell h.1 h2,hg.cell h.2.1 h0,hg.cell h.2.2 h1⟩
theorem UnlAt.below {w w':World} {b:Nat} {no:Int} {found:ByteArray} {q:Nat} {first caps:Array Value} (h:UnlAt w b no found q first caps) (hb:Below w.heap.size w w'):UnlAt w' b no found q first caps:=
 ⟨(hb.cell (zaa h.1)).trans h.1,(hb.cell (zaa h.2.1)).trans h.2.1,(hb.cell (zaa h.2.2)).trans h.2.2⟩
theorem zho (no:Int) (found:ByteArray) (q:Nat) (first caps:Array Value) (w:World):
  Calls Tryz.prog 28 #[.int .i64 no,.string found,.func (.func q) first caps] w fun e w'=>e= .returned (unlV w.heap.size)∧UnlAt w' w.heap.size no found q first caps∧w'.heap.size=w.heap.size+3∧Below w.heap.size w w':=by
 have hmf: ∀(fn:Fn) (first cap:Array Value) (w:World),(Instr.makeFunc fn first cap).run Tryz.prog w= .ok (.func fn first cap) w:=fun _ _ _ _=>rfl
 go_enter Tryz.func28,Tryz.ntmps28
 go_wp2
 go_ret
 refine⟨rfl,⟨?_,?_,?_⟩,?_,?_⟩
 ·simp[World.cell?_alloc_at]
 ·rw[World.cell?_alloc_lt _ _ ⟨w.heap.size,0,none⟩ (by simp;omega),World.cell?_alloc_lt _ _ ⟨w.heap.size,0,none⟩ (by simp)];simp
 ·rw[World.cell?_alloc_lt _ _ ⟨w.heap.size+1,0,none⟩ (by simp)];simp
 ·simp
 ·exact(((Below.refl _ _).alloc (Nat.le_refl _) _).alloc (by simp) _).alloc (by simp;omega) _
theorem zic (A:Option Addr) (n c:Nat) (w:World):
  Calls Tryz.prog 20 #[.slice A n c] w fun e w'=>e= .returned (.func (.func 46) #[] #[.pointer (some ⟨w.heap.size,0,none⟩)])∧w'.cell? ⟨w.heap.size,0,none⟩=some (.slice A n c)∧w'.heap.size=w.heap.size+1∧Below w.heap.size w w':=by
 have hmf: ∀(fn:Fn) (first cap:Array Value) (w:World),(Instr.makeFunc fn first cap).run Tryz.prog w= .ok (.func fn first cap) w:=fun _ _ _ _=>rfl
 go_enter Tryz.func20,Tryz.ntmps20
 go_wp2
 go_ret
 exact⟨rfl,by simp,by simp,(Below.refl _ _).alloc (Nat.le_refl _) _⟩
theorem ringC_any (ks:List KeyM) (A:Option Addr) (n c p:Nat) (w:World) (hp:w.cell? ⟨p,0,none⟩=some (.slice A n c)) (hn:ks.length=n) (hn9:n≤9223372036854775807) (hnc:n≤c) (hk:KeyOk ks) (hr:RingAt w A ks):
  Calls Tryz.prog 46 #[.pointer (some ⟨p,0,none⟩)] w (zoX ks w):=by
 have HC:=Lib.hid (zgc ks A n c w hn hn9 hnc hk hr)
 obtain⟨v,hv⟩: ∃v:Value,v=(if zbn ks=true then .nilIface else .iface 54 (.int .i64 83)):=⟨_,rfl⟩
 unfold zoX at HC⊢
 rw[←hv]at HC⊢
 clear hr hk hn hv
 go_enter Tryz.func46,Tryz.ntmps46
 go_wp2_with fail
 refine HC.out.mono ?_
 rintro e w1 ⟨rfl,hb⟩
 have HB:=Lib.hid hb
 clear hb
 go_wp2
 go_ret
 exact⟨rfl,HB.out⟩
theorem nameQ_any (s:ByteArray) (p:Nat) (w:World) (hp:w.cell? ⟨p,0,none⟩=some (.string s)):
  Calls Tryz.prog 47 #[.pointer (some ⟨p,0,none⟩)] w fun e w'=>e= .returned (.bool (zbJ (strL s)))∧w=w':=by
 have HC:=Lib.hid (fun W=>zlb s W)
 obtain⟨b,hb⟩: ∃b,b=zbJ (strL s):=⟨_,rfl⟩
 rw[←hb]at HC⊢
 clear hb
 go_enter Tryz.func47,Tryz.ntmps47
 go_wp2_with(go_at_call 48;(with_reducible refine(HC.out _).mono ?_);rintro e w' ⟨rfl,rfl⟩)
 go_ret
 exact⟨rfl,rfl⟩
theorem zlW (s:ByteArray) (p:Nat) (w:World) (hp:w.cell? ⟨p,0,none⟩=some (.string s)):
  Calls Tryz.prog 49 #[.pointer (some ⟨p,0,none⟩)] w fun e w'=>e= .returned (.bool (decide (s.size≤4096)))∧w=w':=by
 by_cases h:s.size≤4096
 ·have h1:(s.size:Int)≤4096:=by omega
  rw[decide_eq_true h]
  go_enter Tryz.func49,Tryz.ntmps49
  go_wp2
  go_ret
  exact⟨by simp[h1],rfl⟩
 ·have h1: ¬(s.size:Int)≤4096:=by omega
  rw[decide_eq_false h]
  go_enter Tryz.func49,Tryz.ntmps49
  go_wp2
  go_ret
  exact⟨by simp[h1],rfl⟩
def wName:ByteArray:=⟨#[97,32,107,105,110,100,32,116,104,97,116,32,105,115,32,110,111,32,110,97,109,101]⟩
def zge:ByteArray:=⟨#[116,111,111,32,108,111,110,103,32,97,32,116,101,120,116]⟩
theorem zid (s:ByteArray) (w:World):
  Calls Tryz.prog 21 #[.string s] w fun e w'=>e= .returned (unlV (w.heap.size+1))∧w'.cell? ⟨w.heap.size,0,none⟩=some (.string s)∧UnlAt w' (w.heap.size+1) 1 wName 47 #[] #[.pointer (some ⟨w.heap.size,0,none⟩)]∧w'.heap.size=w.heap.size+4∧Below w.heap.size w w':=by
 have hmf: ∀(fn:Fn) (first cap:Array Value) (w:World),(Instr.makeFunc fn first cap).run Tryz.prog w= .ok (.func fn first cap) w:=fun _ _ _ _=>rfl
 have HU:=Lib.hid (fun(b:Nat) (W:World)=>zho 1 wName 47 #[] #[.pointer (some ⟨b,0,none⟩)] W)
 go_enter Tryz.func21,Tryz.ntmps21
 go_wp2_with fail
 refine(HU.out w.heap.size _).mono ?_
 rintro e w1 ⟨rfl,hu,hz,hb⟩
 have HH:=Lib.hid (And.intro hu hz)
 have HB:=Lib.hid hb
 clear hu hz hb
 go_wp2
 go_ret
 have hb:=HB.out
 have hu:=HH.out.1
 have hz:=HH.out.2
 simp only[World.size_alloc]at hb hu hz
 exact⟨by simp,(hb.cell (p:=⟨w.heap.size,0,none⟩) (Nat.lt_succ_self _)).trans (by simp),hu,by omega,(zad w _).trans (hb.mono (by omega))⟩
theorem zfX (s:ByteArray) (w:World):
  Calls Tryz.prog 22 #[.string s] w fun e w'=>e= .returned (unlV (w.heap.size+1))∧w'.cell? ⟨w.heap.size,0,none⟩=some (.string s)∧UnlAt w' (w.heap.size+1) 2 zge 49 #[] #[.pointer (some ⟨w.heap.size,0,none⟩)]∧w'.heap.size=w.heap.size+4∧Below w.heap.size w w':=by
 have hmf: ∀(fn:Fn) (first cap:Array Value) (w:World),(Instr.makeFunc fn first cap).run Tryz.prog w= .ok (.func fn first cap) w:=fun _ _ _ _=>rfl
 have HU:=Lib.hid (fun(b:Nat) (W:World)=>zho 2 zge 49 #[] #[.pointer (some ⟨b,0,none⟩)] W)
 go_enter Tryz.func22,Tryz.ntmps22
 go_wp2_with fail
 refine(HU.out w.heap.size _).mono ?_
 rintro e w1 ⟨rfl,hu,hz,hb⟩
 have HH:=Lib.hid (And.intro hu hz)
 have HB:=Lib.hid hb
 clear hu hz hb
 go_wp2
 go_ret
 have hb:=HB.out
 have hu:=HH.out.1
 have hz:=HH.out.2
 simp only[World.size_alloc]at hb hu hz
 exact⟨by simp,(hb.cell (p:=⟨w.heap.size,0,none⟩) (Nat.lt_succ_self _)).trans (by simp),hu,by omega,(zad w _).trans (hb.mono (by omega))⟩
def AtErr (pos n:Int) (w:World) (v:Value) (w':World):Prop:=
 ∃b,v= .iface 188 (.pointer (some ⟨b,0,none⟩))∧w'.cell? ⟨b,0,none⟩=some (.int .i64 pos)∧w'.cell? ⟨b,0+1,none⟩=some (.iface 54 (.int .i64 n))∧Below w.heap.size w w'
def zkm (pos:Int) (w:World) (e:Ending) (w':World):Prop:= ∃v,e= .returned (.tuple #[.int .i64 0,v])∧AtErr pos 40 w v w'
def ReadTells (l:List Int) (least most:Int) (w:World) (e:Ending) (w':World):Prop:=
 (zeV l=false∧zkm (zbY l:Int) w e w')∨
 (zeV l=true∧fitL l least most=false∧e= .returned (.tuple #[.int .i64 0,.iface 54 (.int .i64 41)])∧Below w.heap.size w w')∨
 (zeV l=true∧fitL l least most=true∧e= .returned (.tuple #[.int .i64 (numL l),.nilIface])∧Below w.heap.size w w')
theorem form_rest {s:ByteArray} (h:zeV (strL s)=true):AllD (strL (zcj s)):=by
 rw[restL]
 unfold zdQ
 rcases zkb h with⟨h45,hall,_⟩|⟨h45,hall,_⟩
 ·rw[decide_eq_true h45,if_pos rfl];exact hall
 ·rw[decide_eq_false h45,if_neg (by decide)];exact hall
theorem form_lead (s:ByteArray):zeV (strL s)=true↔zbY (strL s)≠0∧ ¬zbY (strL s)<s.size:=by
 unfold zeV
 rw[decide_eq_true_eq,←zaQ]
 have:=zfY (strL s)
 constructor
 ·rintro⟨h1,h2⟩
  have:=List.length_pos_iff.2 h1
  omega
 ·rintro⟨h1,h2⟩
  exact⟨fun e=>by rw[e]at h1;exact h1 rfl,by omega⟩
theorem read_no (s:ByteArray) (least most:Int) (w:World) (hs:s.size≤9223372036854775806) (hf:zeV (strL s)=false):
  Calls Tryz.prog 196 #[.string s,.int .i64 least,.int .i64 most] w (zkm (zbY (strL s):Int) w):=by
 have HL:=Lib.hid (zkX s w hs)
 have hle:=zfY (strL s)
 rw[zaQ]at hle
 have hn:zbY (strL s)=0∨zbY (strL s)<s.size:=by
  by_cases h:zbY (strL s)=0
  ·exact .inl h
  ·by_cases h2:zbY (strL s)<s.size
   ·exact .inr h2
   ·rw[(form_lead s).2 ⟨h,h2⟩]at hf;cases hf
 obtain⟨p,hp⟩: ∃p,p=zbY (strL s):=⟨_,rfl⟩
 rw[←hp]at HL hn hle⊢
 clear hp hf
 unfold zkm AtErr
 rcases hn with rfl|hn
 ·go_enter Tryz.func196,Tryz.ntmps196
  go_wp2_with(go_at_call 195;refine HL.out.mono ?_;rintro e w1 ⟨rfl,hb⟩;have HB:=Lib.hid hb;clear hb)
  go_ret2
  refine⟨_,rfl,w1.heap.size,rfl,?_,?_,HB.out.alloc HB.out.size _⟩
  ·simp
  ·simp
 ·have hb:((p:Int)==0)=(p==0):=by rw[Bool.eq_iff_iff,beq_iff_eq,beq_iff_eq];omega
  have hlt:(p:Int)<(s.size:Int):=by omega
  by_cases hp0:p=0
  ·have hb1:((p:Int)==0)=true:=by rw[beq_iff_eq];omega
   clear hb hp0
   go_enter Tryz.func196,Tryz.ntmps196
   go_wp2_with(go_at_call 195;refine HL.out.mono ?_;rintro e w1 ⟨rfl,hb⟩;have HB:=Lib.hid hb;clear hb)
   go_ret2
   refine⟨_,rfl,w1.heap.size,rfl,?_,?_,HB.out.alloc HB.out.size _⟩
   ·simp
   ·simp
  ·have hb1:((p:Int)==0)=false:=by rw[beq_eq_false_iff_ne];omega
   clear hb hp0
   go_enter Tryz.func196,Tryz.ntmps196
   go_wp2_with(go_at_call 195;refine HL.out.mono ?_;rintro e w1 ⟨rfl,hb⟩;have HB:=Lib.hid hb;clear hb)
   go_ret2
   refine⟨_,rfl,w1.heap.size,rfl,?_,?_,HB.out.alloc HB.out.size _⟩
   ·simp
   ·simp
theorem read_yes (s:ByteArray) (least most:Int) (w:World) (hs:s.size≤9223372036854775806) (hf:zeV (strL s)=true):
  Calls Tryz.prog 196 #[.string s,.int .i64 least,.int .i64 most] w fun e w'=>
   (fitL (strL s) least most=false∧e= .returned (.tuple #[.int .i64 0,.iface 54 (.int .i64 41)])∧Below w.heap.size w w')∨
   (fitL (strL s) least most=true∧e= .returned (.tuple #[.int .i64 (numL (strL s)),.nilIface])∧Below w.heap.size w w'):=by
 have HL:=Lib.hid (zkX s w hs)
 have HK:=Lib.hid (fun W:World=>reckon_any s W (by omega) (form_rest hf))
 obtain⟨hn,hnl⟩:=(form_lead s).1 hf
 have hle:=zfY (strL s)
 rw[zaQ]at hle
 have HFT:Hid (fitL (strL s) least most=decide (fitS s=true∧least≤numS s∧numS s≤most)):=Lib.hid (by
  unfold fitL fitS
  rw[numS_num]
  refine decide_eq_decide.2 ?_
  rw[decide_eq_true_eq]
  omega)
 rw[←numS_num]
 obtain⟨p,hp⟩: ∃p,p=zbY (strL s):=⟨_,rfl⟩
 obtain⟨n,hnn⟩: ∃n,n=numS s:=⟨_,rfl⟩
 obtain⟨F,hF⟩: ∃F,F=fitL (strL s) least most:=⟨_,rfl⟩
 rw[←hp]at HL hn hnl hle
 rw[←hnn]at HK HFT⊢
 rw[←hF]at HFT⊢
 have hb1:((p:Int)==0)=false:=by rw[beq_eq_false_iff_ne];omega
 have hlt: ¬(p:Int)<(s.size:Int):=by omega
 clear hp hnn hF hn hf
 cases hfs:fitS s with
 |false=>
  rw[hfs]at HK HFT
  have HR:Hid (F=false):=Lib.hid (by rw[HFT.out];simp)
  rw[if_neg (by decide)]at HK
  rw[HR.out]
  clear hfs
  go_enter Tryz.func196,Tryz.ntmps196
  go_wp2_with(first
   |(go_at_call 195;refine HL.out.mono ?_;rintro e w1 ⟨rfl,hb⟩;have HB:=Lib.hid hb;clear hb)
   |(go_at_call 211;refine(HK.out w1).mono ?_;rintro e w' ⟨rfl,rfl⟩))
  go_ret2
  exact .inl ⟨trivial,rfl,HB.out⟩
 |true=>
  rw[hfs]at HK HFT
  rw[if_pos rfl]at HK
  by_cases h1:n<least
  ·have HR:Hid (F=false):=Lib.hid (by rw[HFT.out,decide_eq_false_iff_not];omega)
   rw[HR.out]
   clear hfs
   go_enter Tryz.func196,Tryz.ntmps196
   go_wp2_with(first
    |(go_at_call 195;refine HL.out.mono ?_;rintro e w1 ⟨rfl,hb⟩;have HB:=Lib.hid hb;clear hb)
    |(go_at_call 211;refine(HK.out w1).mono ?_;rintro e w' ⟨rfl,rfl⟩))
   go_ret2
   exact .inl ⟨trivial,rfl,HB.out⟩
  ·by_cases h2:most<n
   ·have HR:Hid (F=false):=Lib.hid (by rw[HFT.out,decide_eq_false_iff_not];omega)
    rw[HR.out]
    clear hfs
    go_enter Tryz.func196,Tryz.ntmps196
    go_wp2_with(first
     |(go_at_call 195;refine HL.out.mono ?_;rintro e w1 ⟨rfl,hb⟩;have HB:=Lib.hid hb;clear hb)
     |(go_at_call 211;refine(HK.out w1).mono ?_;rintro e w' ⟨rfl,rfl⟩))
    go_ret2
    exact .inl ⟨trivial,rfl,HB.out⟩
   ·have HR:Hid (F=true):=Lib.hid (by rw[HFT.out,decide_eq_true_eq];exact⟨rfl,by omega,by omega⟩)
    rw[HR.out]
    clear hfs
    go_enter Tryz.func196,Tryz.ntmps196
    go_wp2_with(first
     |(go_at_call 195;refine HL.out.mono ?_;rintro e w1 ⟨rfl,hb⟩;have HB:=Lib.hid hb;clear hb)
     |(go_at_call 211;refine(HK.out w1).mono ?_;rintro e w' ⟨rfl,rfl⟩))
    go_ret2
    exact .inr ⟨trivial,rfl,HB.out⟩
theorem read_anyN (s:ByteArray) (least most:Int) (w:World) (hs:s.size≤9223372036854775806) (_h0: -9223372036854775808≤least∧least≤9223372036854775807) (_h1: -9223372036854775808≤most∧most≤9223372036854775807):
  Calls Tryz.prog 196 #[.string s,.int .i64 least,.int .i64 most] w (ReadTells (strL s) least most w):=by
 cases hf:zeV (strL s)with
 |false=>exact(read_no s least most w hs hf).mono fun e w' h=> .inl ⟨hf,h⟩
 |true=>
  refine(read_yes s least most w hs hf).mono fun e w' h=> ?_
  rcases h with⟨h1,h2⟩|⟨h1,h2⟩
  ·exact .inr (.inl ⟨hf,h1,h2⟩)
  ·exact .inr (.inr ⟨hf,h1,h2⟩)
theorem zText:(Tryz.prog.info? 236).map (·.zero)=some (some (.agg (ints .u8 (List.replicate 20 0)).toArray)):=by kernel_rfl
theorem sByte:(Tryz.prog.info? 5).map (·.size)=some 1:=by kernel_rfl
def headL (m:Nat):List Int:=if m=0 then[]else digL m
def Told (N m:Nat) (suf:List Int):Prop:=(suf=[]∧m=N)∨(suf≠[]∧digL N=headL m++suf)
theorem Told.step {N m:Nat} {suf:List Int} (h:Told N m suf) (hc:suf=[]∨m≠0):Told N (m/10) ((48+((m%10:Nat):Int))::suf):=by
 have h1:digL N=digL m++suf:=by
  rcases h with⟨rfl,rfl⟩|⟨h1,h2⟩
  ·simp
  ·have:=hc.resolve_left h1
   rw[h2,headL,if_neg this]
 refine .inr ⟨by simp,?_⟩
 rw[h1]
 by_cases h10:m<10
 ·rw[zed h10,headL,if_pos (by omega),show m%10=m by omega];rfl
 ·rw[zev h10,headL,if_neg (by omega),List.append_assoc];rfl
theorem Told.len {N m:Nat} {suf:List Int} (h:Told N m suf):suf.length≤(digL N).length:=by
 rcases h with⟨rfl,rfl⟩|⟨h1,h2⟩
 ·simp
 ·rw[h2,List.length_append];omega
theorem Told.done {N:Nat} {suf:List Int} (h:Told N 0 suf) (h1:suf≠[]):digL N=suf:=by
 rcases h with⟨h2,_⟩|⟨_,h2⟩
 ·exact absurd h2 h1
 ·rw[h2];rfl
theorem set_drop {arr suf:List Int} {f:Nat} (x:Int) (hf:f+1≤arr.length) (hd:arr.drop (f+1)=suf):(arr.set f x).drop f=x::suf:=by
 rw[List.drop_eq_getElem_cons (by rw[List.length_set];omega),List.getElem_set_self,List.drop_set_of_lt (by omega),hd]
theorem lies_from {w:World} {g f:Nat} {t:TypeId} {arr suf:List Int} (h:Blk w g t (ints .u8 arr)) (hd:arr.drop f=suf):Lies w (some ⟨g,0+f,none⟩) suf:=
 Lies.blk h fun j v hv=>by
  rw[←hd]at hv
  simp only[ints,List.map_drop,List.getElem?_drop]at hv
  rw[Nat.zero_add]
  exact hv
theorem print_any (n:Int) (w:World) (h0: -9223372036854775808≤n) (h1:n≤9223372036854775807):
  Calls Tryz.prog 148 #[.int .i64 n] w fun e w'=>e= .returned (.string (toS (prL n)))∧Below w.heap.size w w':=by
 have HZ:=Lib.hid (fun W:World=>znx n W h0 h1)
 obtain⟨N,hN⟩: ∃N,N=n.natAbs:=⟨_,rfl⟩
 rw[←hN]at HZ
 have HLEN:Hid ((digL N).length≤19):=Lib.hid (znr 18 N (by omega))
 have HP:Hid ((n<0→prL n=45::digL N)∧(¬n<0→prL n=digL N)):=Lib.hid ⟨fun h=>by unfold prL;rw[if_pos h,hN],fun h=>by unfold prL;rw[if_neg h,hN]⟩
 obtain⟨P,hP⟩: ∃P,P=prL n:=⟨_,rfl⟩
 have HPB:Hid (Bytes P):=Lib.hid (by rw[hP];exact prL_bytes n)
 rw[←hP]at HP⊢
 have hNb:N≤9223372036854775808:=by omega
 clear hN hP
 go_enter Tryz.func148,Tryz.ntmps148
 go_wp2_with(first
  |(refine zaK rfl (some 3) rfl _ rfl _ zText ?_;intro g w1 hg hb hgr;have HB:=Lib.hid ((Below.refl _ w).grown hgr (Nat.le_refl _) (by simp));have HG:=Lib.hid hg;clear hgr hg;try go_frame)
  |(go_at_call 174;refine(HZ.out _).mono ?_;rintro e w' ⟨rfl,rfl⟩))
 go_loopw[4,5] (fun f r wr=> ∃(k m:Nat) (arr suf:List Int),f= .int .i64 (k:Int)∧r= .int .i64 (-(m:Int))∧k+suf.length=20∧m≤N∧arr.length=20∧arr.drop k=suf∧Told N m suf∧Blk wr g 236 (ints .u8 arr)∧Below w.heap.size w wr) (fun f _ _=>(intOf f).toNat)
 case atStart=>exact⟨20,N,List.replicate 20 0,[],rfl,rfl,rfl,Nat.le_refl _,rfl,rfl,.inl ⟨rfl,rfl⟩,hb,HB.out⟩
 case round=>
  obtain⟨k,m,arr,suf,rfl,rfl,hks,hmN,ha,hd,htold,hblk,hbel⟩:=hrel
  have HB2:=Lib.hid hbel
  have HT:=Lib.hid htold
  have hlt:=hblk.lt
  have hslen:suf.length≤19:=Nat.le_trans htold.len HLEN.out
  clear htold hbel
  by_cases hdone:m=0∧suf≠[]
  ·obtain⟨rfl,hne⟩:=hdone
   have hpos:=List.length_pos_iff.2 hne
   have HE:=Lib.hid (HT.out.done hne)
   obtain⟨f,rfl⟩: ∃f,k=f+1:=⟨k-1,by omega⟩
   have hk20:((f:Int)+1==20)=false:=by rw[beq_eq_false_iff_ne];omega
   have HD:=Lib.hid hd
   by_cases hn:n<0
   ·have HPE:=Lib.hid (HP.out.1 hn)
    have HDR:Hid ((arr.set f 45).drop f=P):=Lib.hid (by rw[set_drop 45 (by omega) hd,HPE.out,HE.out])
    have hsl:=fun(W:World)=>zcn (P:=Tryz.prog) 236 5 20 Tryz.underlying236 sByte g 0 f (by omega) .i64 W
    have HPL:Hid (P.length=20-f):=Lib.hid (by rw[←HDR.out,List.length_drop,List.length_set,ha])
    clear hne hd hpos
    go_wp2_with(first
     |(refine zaf rfl none rfl _ (.tmp 30) (.tmp 29) rfl g f (.int .u8 45) rfl rfl rfl _ _ hblk (by rw[length_ints,ha];omega) sByte ?_;intro w5 hb5 hgr;rw[zcc]at hb5;have HB5:=Lib.hid (HB2.out.grown hgr HB2.out.size (by intro q hq;injection hq with hq;have:=HG.out;omega));clear hgr;have hcv:=zdo (some ⟨g,0+f,none⟩) P (20-f) (20-f) w5 HPL.out (lies_from hb5 HDR.out);rw[Nat.zero_add]at hcv;try go_frame))
    go_ret
    exact⟨rfl,HB5.out⟩
   ·have HPE:=Lib.hid (HP.out.2 (by omega))
    have HPL:Hid (P.length=20-(f+1)):=Lib.hid (by rw[HPE.out,HE.out];omega)
    have hsl: ∀W:World,_:=fun(W:World)=>zcn (P:=Tryz.prog) 236 5 20 Tryz.underlying236 sByte g 0 (f+1) (by omega) .i64 W
    have ef:((f+1:Nat):Int)=(f:Int)+1:=by omega
    simp only[ef,Nat.zero_add]at hsl
    have hcv:=zdo (some ⟨g,0+(f+1),none⟩) P (19-f) (19-f) wr (by rw[HPL.out];omega) (lies_from hblk (by rw[HD.out,HPE.out,HE.out]))
    rw[Nat.zero_add]at hcv
    clear ef hne hd hpos
    go_wp2
    go_ret
    exact⟨rfl,HB2.out⟩
  ·have HC:Hid (suf=[]∨m≠0):=Lib.hid (by
    by_cases h:m=0
    ·exact .inl (Classical.byContradiction fun h2=>hdone ⟨h,h2⟩)
    ·exact .inr h)
   have HST:=Lib.hid (HT.out.step HC.out)
   obtain⟨f,rfl⟩: ∃f,k=f+1:=⟨k-1,by omega⟩
   have HSD:Hid ((arr.set f (48+((m%10:Nat):Int))).drop f=(48+((m%10:Nat):Int))::suf):=Lib.hid (set_drop _ (by omega) hd)
   have hm1:(-(m:Int)).tmod 10= -((m%10:Nat):Int):=by rw[Int.neg_tmod,Int.tmod_eq_emod_of_nonneg (by omega)];omega
   have hm2:(-(m:Int)).tdiv 10= -((m/10:Nat):Int):=by rw[Int.neg_tdiv,Int.tdiv_eq_ediv_of_nonneg (by omega)];omega
   have hm3:(48:Int)- -((m%10:Nat):Int)=48+((m%10:Nat):Int):=by omega
   obtain⟨r,hr⟩: ∃r:Nat,r=m%10:=⟨_,rfl⟩
   obtain⟨q,hq⟩: ∃q:Nat,q=m/10:=⟨_,rfl⟩
   rw[←hr]at HST HSD hm1 hm3
   rw[←hq]at HST hm2
   have hr9:r≤9:=by omega
   have hqm:q≤m:=by omega
   have HQ:=Lib.hid hqm
   clear hr hq hd
   by_cases hs0:suf=[]
   ·subst hs0
    have hf:f=19:=by simp at hks;omega
    subst hf
    clear hdone
    go_wp2_with(first
     |(refine zaf rfl none rfl _ (.tmp 23) (.tmp 22) rfl g 19 (.int .u8 (48+(r:Int))) rfl rfl rfl _ _ hblk (by rw[length_ints,ha];omega) sByte ?_;intro w5 hb5 hgr;rw[zcc]at hb5;have HB5:=Lib.hid (HB2.out.grown hgr HB2.out.size (by intro q hq;injection hq with hq;have:=HG.out;omega));clear hgr;try go_frame))
    go_roundw
    case rel=>exact⟨19,q,arr.set 19 (48+(r:Int)),[48+(r:Int)],by go_num,by congr 1,by simp,by omega,by rw[List.length_set];exact ha,HSD.out,HST.out,hb5,HB5.out⟩
    case measure=>simp[intOf]
   ·have hm0:((-(m:Int))!=0)=true:=by rw[bne_iff_ne];have:=HC.out.resolve_left hs0;omega
    have hk20:((f:Int)+1==20)=false:=by rw[beq_eq_false_iff_ne];have:=List.length_pos_iff.2 hs0;omega
    clear hdone hs0
    go_wp2_with(first
     |(refine zaf rfl none rfl _ (.tmp 23) (.tmp 22) rfl g f (.int .u8 (48+(r:Int))) rfl rfl rfl _ _ hblk (by rw[length_ints,ha];omega) sByte ?_;intro w5 hb5 hgr;rw[zcc]at hb5;have HB5:=Lib.hid (HB2.out.grown hgr HB2.out.size (by intro q hq;injection hq with hq;have:=HG.out;omega));clear hgr;try go_frame))
    go_roundw
    case rel=>exact⟨f,q,arr.set f (48+(r:Int)),(48+(r:Int))::suf,by go_num,by congr 1,by simp;omega,by omega,by rw[List.length_set];exact ha,HSD.out,HST.out,hb5,HB5.out⟩
    case measure=>simp[intOf]
theorem infoKey:(Tryz.prog.info? 41).map (fun i=>(i.zero,i.size,i.bytes))=some (some (.agg #[.string ByteArray.empty,.string ByteArray.empty]),2,32):=by kernel_rfl
def zce (ks:List KeyM):List Value:=ks.flatMap fun k=>[.string k.1,.string k.2]
theorem zer: ∀ks:List KeyM,(zce ks).length=ks.length*2
 |[]=>rfl
 |k::r=>by
  have:=zer r
  unfold zce at this⊢
  rw[List.flatMap_cons,List.length_append,this,List.length_cons];simp;omega
theorem znm (a b:List KeyM):zce (a++b)=zce a++zce b:=by unfold zce;rw[List.flatMap_append]
theorem zhk: ∀(ks:List KeyM) (i:Nat) (k:KeyM),ks[i]? =some k→(zce ks)[i*2]? =some (.string k.1)∧(zce ks)[i*2+1]? =some (.string k.2)
 |[],i,k,h=>by simp at h
 |k0::r,0,k,h=>by
  have h:k0=k:=by simpa using h
  subst h
  exact⟨rfl,rfl⟩
 |k0::r,i+1,k,h=>by
  have h:r[i]? =some k:=by simpa using h
  obtain⟨h1,h2⟩:=zhk r i k h
  have e:zce (k0::r)= .string k0.1:: .string k0.2::zce r:=rfl
  rw[e,show(i+1)*2=i*2+1+1 by omega,List.getElem?_cons_succ,List.getElem?_cons_succ,List.getElem?_cons_succ,List.getElem?_cons_succ]
  exact⟨h1,h2⟩
theorem zmK (ks:List KeyM): ∀u∈zce ks,u.oneCell'=true:=fun u hu=>by
 unfold zce at hu
 obtain⟨k,_,hk⟩:=List.mem_flatMap.1 hu
 simp only[List.mem_cons,List.not_mem_nil,or_false]at hk
 rcases hk with rfl|rfl<;>rfl
theorem ring_news {w:World} {A:Option Addr} {ks:List KeyM} (h:RingAt w A ks) (hp:ks≠[]): ∃b o,A=some ⟨b,o,none⟩∧b<w.heap.size∧ ∀j u,(zce ks)[j]? =some u→w.cell? ((⟨b,o,none⟩:Addr).add j)=some u:=by
 obtain⟨b,o,e,hlt,hc⟩:=h hp
 refine⟨b,o,e,hlt,fun j u hu=> ?_⟩
 have hj:j<ks.length*2:=by rw[←zer];exact(List.getElem?_eq_some_iff.1 hu).1
 have hq:j/2<ks.length:=by omega
 obtain⟨c1,c2⟩:=hc (j/2) _ (List.getElem?_eq_getElem hq)
 obtain⟨f1,f2⟩:=zhk ks (j/2) _ (List.getElem?_eq_getElem hq)
 rw[Addr.add_mid]
 rcases Nat.mod_two_eq_zero_or_one j with h2|h2
 ·have e:j=j/2*2:=by omega
  rw[←e]at f1 c1
  rw[f1]at hu
  injection hu with hu
  rw[←hu];exact c1
 ·have e:j/2*2+1=j:=by omega
  rw[e]at f2
  rw[show o+j/2*2+1=o+j by omega]at c2
  rw[f2]at hu
  injection hu with hu
  rw[←hu];exact c2
theorem own_ring {w:World} {base g cap n:Nat} {ks:List KeyM} (h:w.ownsRow base 41 2 (.slice (some ⟨g,0,none⟩) n cap) n (zce ks)):RingAt w (some ⟨g,0,none⟩) ks:=fun _=>by
 refine⟨g,0,rfl,(h.lt g rfl).2,fun i k hi=> ?_⟩
 obtain⟨f1,f2⟩:=zhk ks i k hi
 have c1:=h.cells rfl _ _ f1
 have c2:=h.cells rfl _ _ f2
 rw[Addr.add_mid]at c1 c2
 rw[Nat.zero_add]at c1
 rw[←Nat.add_assoc]at c2
 exact⟨by rw[Nat.zero_add];exact c1,c2⟩
theorem growK_any (n:Nat) (h0:0<n) (hn:n≤1000) (w:World):Calls Tryz.prog 108 #[.slice none 0 0,.int .i64 n] w fun e w'=> ∃g cap,e= .returned (.slice (some ⟨g,0,none⟩) 0 cap)∧w'.ownsRow w.heap.size 41 2 (.slice (some ⟨g,0,none⟩) 0 cap) 0 []∧w.grownBy w' none:=by
 obtain⟨iK,hK,hK0,hK1,hK2⟩:=info_parts infoKey
 have hrz: ∀ty,(Builtin.append_ #[22,3] ty #[.slice none 0 0,.int .i64 (n:Int)]).run Tryz.prog w= .ok (.slice (some ⟨w.heap.size,0,none⟩) n (grownCap w n 0 41)) (w.drew.alloc (.cells (Builtin.zeroCells (Value.agg #[.string ByteArray.empty,.string ByteArray.empty]).cells n++Builtin.zeroCells (Value.agg #[.string ByteArray.empty,.string ByteArray.empty]).cells (grownCap w n 0 41-n)) 41)):=fun ty=>
  Lib.run_append_nil_zeros w 22 3 ty 41 iK _ .i64 .i64 Tryz.underlying22 Tryz.underlying3 hK hK0 n h0 (by rw[hK1];decide) (by omega) (by rw[hK2];omega)
 have hG:=grownCap_ge w n 0 41
 have hGm:=grownCap_le_maxLen w n 0 41 (by unfold maxLen;omega)
 obtain⟨G,hGd⟩: ∃G,G=grownCap w n 0 41:=⟨_,rfl⟩
 rw[←hGd]at hrz hG hGm
 obtain⟨cur,hcur⟩: ∃c,c=Builtin.zeroCells (Value.agg #[.string ByteArray.empty,.string ByteArray.empty]).cells n++Builtin.zeroCells (Value.agg #[.string ByteArray.empty,.string ByteArray.empty]).cells (G-n):=⟨_,rfl⟩
 have hcs:cur.size=G*2:=by
  rw[hcur,Array.size_append,size_zeroCells,size_zeroCells]
  show n*2+(G-n)*2=G*2
  omega
 rw[←hcur]at hrz
 have HOW:=Lib.hid (World.ownsRow_made (base:=w.heap.size) (e:=41) (size:=2) w.drew cur G (by simp) hGm hcs)
 have HGR:Hid (w.grownBy (w.drew.alloc (.cells cur 41)) none):=Lib.hid ((zaJ (zaY w none)).trans (World.grownBy_alloc _ _ none))
 have hG63:G≤9223372036854775807:=by unfold maxLen at hGm;omega
 have z1:(0:Int)<(n:Int):=by omega
 have z2: ¬(n:Int)<0:=by omega
 clear hcur hcs hGm hGd hK hK0 hK1 hK2
 go_enter Tryz.func108,Tryz.ntmps108
 go_wp2_with(at_builtin;refine Lib.wpList_append_run _ rfl _ _ _ _ rfl _ _ rfl rfl _ _ (hrz _) ?_)
 all_goals(go_ret;exact⟨_,_,rfl,HOW.out,HGR.out⟩)
theorem concatK_any (ks:List KeyM) (A:Option Addr) (n c:Nat) (k:KeyM) (B c2 L:Nat) (w:World) (hn:ks.length=n) (hn1:1≤n) (hn9:n≤100) (hr:RingAt w A ks) (hrk:RingAt w (some ⟨B,0,none⟩) [k]) (hL0:w.cell? ⟨L,0,none⟩=some (.slice A n c)) (hL1:w.cell? ⟨L,1,none⟩=some (.slice (some ⟨B,0,none⟩) 1 c2)):
  Calls Tryz.prog 75 #[.slice (some ⟨L,0,none⟩) 2 2] w fun e w'=> ∃g cap,e= .returned (.slice (some ⟨g,0,none⟩) (n+1) cap)∧w'.ownsRow w.heap.size 41 2 (.slice (some ⟨g,0,none⟩) (n+1) cap) (n+1) (zce (ks++[k]))∧Below w.heap.size w w':=by
 obtain⟨iK,hK,hK0,hK1,hK2⟩:=info_parts infoKey
 have hgw:=growK_any (n+1) (by omega) (by omega) w
 rw[show((n+1:Nat):Int)=(n:Int)+1 by omega]at hgw
 have HGW:=Lib.hid hgw
 have hne:ks≠[]:=fun e=>by rw[e]at hn;simp at hn;omega
 obtain⟨b,o,rfl,hb,hnews⟩:=ring_news hr hne
 obtain⟨b2,o2,e2,hb2,hnews2⟩:=ring_news hrk (by simp)
 injection e2 with e2
 injection e2 with e2 e3
 subst e2;subst e3
 have HNW:Hid (∀X,Below w.heap.size w X→(∀j u,(zce ks)[j]? =some u→X.cell? ((⟨b,o,none⟩:Addr).add j)=some u)∧(∀j u,(zce [k])[j]? =some u→X.cell? ((⟨B,0,none⟩:Addr).add j)=some u)∧X.cell? ⟨L,0,none⟩=some (.slice (some ⟨b,o,none⟩) n c)∧X.cell? ⟨L,1,none⟩=some (.slice (some ⟨B,0,none⟩) 1 c2)):=Lib.hid fun X hX=>
  ⟨fun j u h=>by have h1:=hnews j u h;rw[Addr.add_mid]at h1⊢;exact(hX.cell (p:=⟨b,o+j,none⟩) hb).trans h1,fun j u h=>by have h1:=hnews2 j u h;rw[Addr.add_mid]at h1⊢;exact(hX.cell (p:=⟨B,0+j,none⟩) hb2).trans h1,(hX.cell (zaa hL0)).trans hL0,(hX.cell (zaa hL1)).trans hL1⟩
 have HLN:=Lib.hid (show(zce ks).length=n*2 by rw[zer,hn])
 have w1:IntKind.i64.wrap ((0:Int)+(n:Int))=(n:Int):=by rw[IntKind.wrap_i64];omega
 have w1':IntKind.i64.wrap (n:Int)=(n:Int):=by rw[IntKind.wrap_i64];omega
 have w2:IntKind.i64.wrap ((n:Int)+1)=(n:Int)+1:=by rw[IntKind.wrap_i64];omega
 have z1: ¬(n:Int)<0:=by omega
 have z2: ¬(n:Int)+1<0:=by omega
 clear hnews hnews2 hr hrk hgw hne hn
 go_enter Tryz.func75,Tryz.ntmps75
 go_wp2
 refine wp_loop_rounds 3 ?_
 rw[rounds_succ]
 go_wp2
 rw[rounds_succ]
 go_wp2
 rw[rounds_succ]
 go_wp2_with fail
 refine HGW.out.mono ?_
 rintro e w3 ⟨g,cap,rfl,hown,hgr⟩
 have HOW:=Lib.hid hown
 have HB3:Hid (Below w.heap.size w w3):=Lib.hid ((Below.refl _ w).grown hgr (Nat.le_refl _) (fun b hb=>by cases hb))
 obtain⟨hnw, -,hL0,hL1⟩:=HNW.out w3 HB3.out
 have HN3:=Lib.hid hnw
 have hsz:=HB3.out.size
 clear hown hgr hnw HGW
 go_wp2_with fail
 refine wp_loop_rounds 3 ?_
 rw[rounds_succ]
 go_wp2_with(at_builtin;refine wpList_append_lies _ rfl _ _ 22 rfl w.heap.size 41 iK (.agg #[.string ByteArray.empty,.string ByteArray.empty]) 2 32 Tryz.underlying22 hK hK0 hK1 hK2 rfl (by decide) _ 0 [] rfl HOW.out ⟨b,o,none⟩ n c (zce ks) rfl HLN.out HN3.out (zmK ks) (by omega) (by unfold maxLen;omega) (by omega) hsz _ rfl ?_;intro g4 cap4 w4 hown4 hgrow4 hat4 hlt4;have HO4:=Lib.hid hown4;have HB4:=Lib.hid (HB3.out.grown hgrow4 HB3.out.size (fun q hq=>(HOW.out.lt q hq).1));obtain⟨-,hnw4,hM0,hM1⟩:=HNW.out w4 HB4.out;have HN4:=Lib.hid hnw4;have hsz4:=HB4.out.size;clear hown4 hgrow4 hat4 hlt4 hnw4 hL0 hL1;try go_frame)
 have HLK:=Lib.hid (show(zce [k]).length=1*2 by rw[zer];rfl)
 rw[rounds_succ]
 go_wp2_with(at_builtin;refine wpList_append_lies _ rfl _ _ 22 rfl w.heap.size 41 iK (.agg #[.string ByteArray.empty,.string ByteArray.empty]) 2 32 Tryz.underlying22 hK hK0 hK1 hK2 rfl (by decide) _ _ _ rfl HO4.out ⟨B,0,none⟩ 1 c2 (zce [k]) rfl HLK.out HN4.out (zmK [k]) (by omega) (by unfold maxLen;omega) (by omega) hsz4 _ rfl ?_;intro g5 cap5 w5 hown5 hgrow5 hat5 hlt5;have HO5:=Lib.hid hown5;have HB5:=Lib.hid (HB4.out.grown hgrow5 HB4.out.size (fun q hq=>(HO4.out.lt q hq).1));have hsz5:=HB5.out.size;clear hown5 hgrow5 hat5 hlt5 hM0 hM1;try go_frame)
 rw[rounds_succ]
 go_wp2
 go_ret
 have ho:=HO5.out
 rw[Nat.zero_add,List.nil_append]at ho
 rw[znm]
 exact⟨g5,cap5,by rw[Nat.zero_add];rfl,ho,HB5.out⟩
end Go.Proofs.YtceddodfddlncaaGreatDoor
