
import Derived.Deep.CutBlock
import Derived.Deep.CutRange
import Derived.Lib.AppendStr
import Derived.Lib.Builder
import Derived.Test.YtjfgmgkhinehaaaGreatDoorCq18
import Derived.Test.YtjfgmgkhinehaaaGreatDoorCq19
import Derived.Test.YtjfgmgkhinehaaaGreatDoorCq36
import Derived.Test.YtjfgmgkhinehaaaGreatDoorCq38
set_option maxRecDepth 100000
set_option maxHeartbeats 16000000
set_option linter.all false
namespace Go.Proofs.YtjfgmgkhinehaaaGreatDoor
open Go Go.RowKit
theorem zmb (s:ByteArray) (w:World) (hm:Marks w) (hs:s.size≤1000000000):
  Calls Tryz.prog 148 #[.string s] w fun e w'=>e= .returned (.bool (utfS s))∧Below w.heap.size w w':=by
 have HM:=Lib.hid hm
 have hconv:=fun(W:World)=>Lib.run_convert_string_bytes (P:=Tryz.prog) W 9 80 5 s Tryz.underlying9 Tryz.underlying80 Tryz.underlying5
 have HCK:=Lib.hid (fun c:Nat=>check_any _ (strL s) s.size c _ (hm.below (zdo w 5 s)) (zaX s) (by omega) (zcj s) (zkd w 5 s))
 have HBB:=Lib.hid (zdo w 5 s)
 clear hm
 by_cases hu:badU (strL s)=(strL s).length
 ·have HR:Hid (utfS s=true):=Lib.hid (decide_eq_true hu)
  have HCK2:=Lib.hid (fun c=>((HCK.out c).mono (R':=fun e w'=>e= .returned .nilIface∧Below w.heap.size w w') fun e w' ht=>by
   rcases ht with⟨_,h1,h2⟩|⟨h1,_⟩
   ·exact⟨h1,HBB.out.trans (h2.mono HBB.out.size)⟩
   ·exact absurd hu h1))
  clear hu HCK
  go_enter Tryz.func148,Tryz.ntmps148
  go_wp2_with(go_at_call 174;refine(HCK2.out _).mono ?_;rintro e w1 ⟨rfl,hb⟩;have HF:=Lib.hid hb;clear hb)
  go_ret
  rw[HR.out];exact⟨rfl,HF.out⟩
 ·have HR:Hid (utfS s=false):=Lib.hid (decide_eq_false hu)
  have HCK2:=Lib.hid (fun c=>((HCK.out c).mono (R':=fun e w'=> ∃b,e= .returned (.iface 120 (.pointer (some ⟨b,0,none⟩)))∧Below w.heap.size w w') fun e w' ht=>by
   rcases ht with⟨h1,_⟩|⟨_,b,h1,_,_,_,h2⟩
   ·exact absurd h1 hu
   ·exact⟨b,h1,HBB.out.trans (h2.mono HBB.out.size)⟩))
  clear hu HCK
  go_enter Tryz.func148,Tryz.ntmps148
  go_wp2_with(go_at_call 174;refine(HCK2.out _).mono ?_;rintro e w1 ⟨b,rfl,hb⟩;have HF:=Lib.hid hb;clear hb)
  go_ret
  rw[HR.out];exact⟨rfl,HF.out⟩
theorem zhY {a:ByteArray} (he:a≠⟨#[]⟩):(a.toList==[])=false∧ ¬a.toList=[]∧0<a.size:=by
 have hpos:0<a.size:=Nat.pos_of_ne_zero fun h0=>he (by
  cases a with|mk d=>cases d with|mk l=>cases l with|nil=>rfl|cons x r=>simp[ByteArray.size]at h0)
 have h2: ¬a.toList=[]:=fun h=>by
  have:=znp hpos
  rw[h]at this;cases this
 exact⟨by rw[beq_eq_false_iff_ne];exact h2,h2,hpos⟩
theorem zac {B:Nat} {w w':World} (h:Below B w w') (g o:Nat) (v:Value) (hg:B≤g):Below B w (w'.setCell ⟨g,o,none⟩ v):=h.setCell (p:=⟨g,o,none⟩) hg _
theorem clean_any (kind n:Int) (s:ByteArray) (p q c d:Nat) (A K:Option Addr) (W:World):
  Calls Tryz.prog 147 #[.agg #[.int .i64 kind,.int .i64 n,.string s,.slice A p c,.slice K q d]] W fun e w'=>e= .returned (.bool (zcc kind n s p q))∧Below W.heap.size W w':=by
 have HB:Hid (∀cs:Array Value,Below W.heap.size W (W.alloc (.cells cs 27))):=Lib.hid fun cs=>(Below.refl _ _).alloc (Nat.le_refl _) _
 obtain⟨R,hR⟩: ∃R,R=zcc kind n s p q:=⟨_,rfl⟩
 have HRR:=Lib.hid hR
 rw[←hR]
 clear hR
 by_cases h1:kind=1
 ·subst h1
  by_cases hs:s=⟨#[]⟩
  ·subst hs;have es:((⟨#[]⟩:ByteArray).toList==[])=true:=by rw[ByteArray.toList_eq];rfl
   by_cases hp:p=0
   ·have ep:((p:Int)==0)=true:=by rw[beq_iff_eq];omega
    by_cases hq:q=0
    ·have eq':((q:Int)==0)=true:=by rw[beq_iff_eq];omega
     have HR:Hid (R=true):=Lib.hid (by rw[HRR.out,zal];simp[hp,hq])
     go_enter Tryz.func147,Tryz.ntmps147
     go_wp2
     go_ret
     rw[HR.out]
     exact⟨rfl,by first|exact HB.out _|exact zac (HB.out _) _ _ _ (Nat.le_refl _)|exact zac (zac (HB.out _) _ _ _ (Nat.le_refl _)) _ _ _ (Nat.le_refl _)⟩
    ·have eq':((q:Int)==0)=false:=by rw[beq_eq_false_iff_ne];omega
     have HR:Hid (R=false):=Lib.hid (by rw[HRR.out,zal];simp[hp,hq])
     go_enter Tryz.func147,Tryz.ntmps147
     go_wp2
     go_ret
     rw[HR.out]
     exact⟨rfl,by first|exact HB.out _|exact zac (HB.out _) _ _ _ (Nat.le_refl _)|exact zac (zac (HB.out _) _ _ _ (Nat.le_refl _)) _ _ _ (Nat.le_refl _)⟩
   ·have ep:((p:Int)==0)=false:=by rw[beq_eq_false_iff_ne];omega
    have HR:Hid (R=false):=Lib.hid (by rw[HRR.out,zal];simp[hp])
    go_enter Tryz.func147,Tryz.ntmps147
    go_wp2
    go_ret
    rw[HR.out]
    exact⟨rfl,by first|exact HB.out _|exact zac (HB.out _) _ _ _ (Nat.le_refl _)|exact zac (zac (HB.out _) _ _ _ (Nat.le_refl _)) _ _ _ (Nat.le_refl _)⟩
  ·obtain⟨es,es2,es3⟩:=zhY hs
   have HR:Hid (R=false):=Lib.hid (by rw[HRR.out,zal];simp[hs])
   go_enter Tryz.func147,Tryz.ntmps147
   go_wp2
   go_ret
   rw[HR.out]
   exact⟨rfl,by first|exact HB.out _|exact zac (HB.out _) _ _ _ (Nat.le_refl _)|exact zac (zac (HB.out _) _ _ _ (Nat.le_refl _)) _ _ _ (Nat.le_refl _)⟩
 ·have g1:(kind==1)=false:=by rw[beq_eq_false_iff_ne];exact h1
  by_cases h2:kind=2
  ·subst h2
   by_cases hs:s=⟨#[]⟩
   ·subst hs;have es:((⟨#[]⟩:ByteArray).toList==[])=true:=by rw[ByteArray.toList_eq];rfl
    by_cases hp:p=0
    ·have ep:((p:Int)==0)=true:=by rw[beq_iff_eq];omega
     by_cases hq:q=0
     ·have eq':((q:Int)==0)=true:=by rw[beq_iff_eq];omega
      have HR:Hid (R=true):=Lib.hid (by rw[HRR.out,zal];simp[hp,hq])
      go_enter Tryz.func147,Tryz.ntmps147
      go_wp2
      go_ret
      rw[HR.out]
      exact⟨rfl,by first|exact HB.out _|exact zac (HB.out _) _ _ _ (Nat.le_refl _)|exact zac (zac (HB.out _) _ _ _ (Nat.le_refl _)) _ _ _ (Nat.le_refl _)⟩
     ·have eq':((q:Int)==0)=false:=by rw[beq_eq_false_iff_ne];omega
      have HR:Hid (R=false):=Lib.hid (by rw[HRR.out,zal];simp[hp,hq])
      go_enter Tryz.func147,Tryz.ntmps147
      go_wp2
      go_ret
      rw[HR.out]
      exact⟨rfl,by first|exact HB.out _|exact zac (HB.out _) _ _ _ (Nat.le_refl _)|exact zac (zac (HB.out _) _ _ _ (Nat.le_refl _)) _ _ _ (Nat.le_refl _)⟩
    ·have ep:((p:Int)==0)=false:=by rw[beq_eq_false_iff_ne];omega
     have HR:Hid (R=false):=Lib.hid (by rw[HRR.out,zal];simp[hp])
     go_enter Tryz.func147,Tryz.ntmps147
     go_wp2
     go_ret
     rw[HR.out]
     exact⟨rfl,by first|exact HB.out _|exact zac (HB.out _) _ _ _ (Nat.le_refl _)|exact zac (zac (HB.out _) _ _ _ (Nat.le_refl _)) _ _ _ (Nat.le_refl _)⟩
   ·obtain⟨es,es2,es3⟩:=zhY hs
    have HR:Hid (R=false):=Lib.hid (by rw[HRR.out,zal];simp[hs])
    go_enter Tryz.func147,Tryz.ntmps147
    go_wp2
    go_ret
    rw[HR.out]
    exact⟨rfl,by first|exact HB.out _|exact zac (HB.out _) _ _ _ (Nat.le_refl _)|exact zac (zac (HB.out _) _ _ _ (Nat.le_refl _)) _ _ _ (Nat.le_refl _)⟩
  ·have g2:(kind==2)=false:=by rw[beq_eq_false_iff_ne];exact h2
   by_cases h3:kind=3
   ·subst h3
    by_cases hn:n=0
    ·subst hn;have en:((0:Int)==0)=true:=rfl
     by_cases hp:p=0
     ·have ep:((p:Int)==0)=true:=by rw[beq_iff_eq];omega
      by_cases hq:q=0
      ·have eq':((q:Int)==0)=true:=by rw[beq_iff_eq];omega
       have HR:Hid (R=true):=Lib.hid (by rw[HRR.out,zal];simp[hp,hq])
       go_enter Tryz.func147,Tryz.ntmps147
       go_wp2
       go_ret
       rw[HR.out]
       exact⟨rfl,by first|exact HB.out _|exact zac (HB.out _) _ _ _ (Nat.le_refl _)|exact zac (zac (HB.out _) _ _ _ (Nat.le_refl _)) _ _ _ (Nat.le_refl _)⟩
      ·have eq':((q:Int)==0)=false:=by rw[beq_eq_false_iff_ne];omega
       have HR:Hid (R=false):=Lib.hid (by rw[HRR.out,zal];simp[hp,hq])
       go_enter Tryz.func147,Tryz.ntmps147
       go_wp2
       go_ret
       rw[HR.out]
       exact⟨rfl,by first|exact HB.out _|exact zac (HB.out _) _ _ _ (Nat.le_refl _)|exact zac (zac (HB.out _) _ _ _ (Nat.le_refl _)) _ _ _ (Nat.le_refl _)⟩
     ·have ep:((p:Int)==0)=false:=by rw[beq_eq_false_iff_ne];omega
      have HR:Hid (R=false):=Lib.hid (by rw[HRR.out,zal];simp[hp])
      go_enter Tryz.func147,Tryz.ntmps147
      go_wp2
      go_ret
      rw[HR.out]
      exact⟨rfl,by first|exact HB.out _|exact zac (HB.out _) _ _ _ (Nat.le_refl _)|exact zac (zac (HB.out _) _ _ _ (Nat.le_refl _)) _ _ _ (Nat.le_refl _)⟩
    ·have en:(n==0)=false:=by rw[beq_eq_false_iff_ne];exact hn
     have HR:Hid (R=false):=Lib.hid (by rw[HRR.out,zal];simp[hn])
     go_enter Tryz.func147,Tryz.ntmps147
     go_wp2
     go_ret
     rw[HR.out]
     exact⟨rfl,by first|exact HB.out _|exact zac (HB.out _) _ _ _ (Nat.le_refl _)|exact zac (zac (HB.out _) _ _ _ (Nat.le_refl _)) _ _ _ (Nat.le_refl _)⟩
   ·have g3:(kind==3)=false:=by rw[beq_eq_false_iff_ne];exact h3
    by_cases h5:kind=5
    ·subst h5
     by_cases hn:n=0
     ·subst hn;have en:((0:Int)==0)=true:=rfl
      by_cases hs:s=⟨#[]⟩
      ·subst hs;have es:((⟨#[]⟩:ByteArray).toList==[])=true:=by rw[ByteArray.toList_eq];rfl
       have HR:Hid (R=true):=Lib.hid (by rw[HRR.out,zal];simp[])
       go_enter Tryz.func147,Tryz.ntmps147
       go_wp2
       go_ret
       rw[HR.out]
       exact⟨rfl,by first|exact HB.out _|exact zac (HB.out _) _ _ _ (Nat.le_refl _)|exact zac (zac (HB.out _) _ _ _ (Nat.le_refl _)) _ _ _ (Nat.le_refl _)⟩
      ·obtain⟨es,es2,es3⟩:=zhY hs
       have HR:Hid (R=false):=Lib.hid (by rw[HRR.out,zal];simp[hs])
       go_enter Tryz.func147,Tryz.ntmps147
       go_wp2
       go_ret
       rw[HR.out]
       exact⟨rfl,by first|exact HB.out _|exact zac (HB.out _) _ _ _ (Nat.le_refl _)|exact zac (zac (HB.out _) _ _ _ (Nat.le_refl _)) _ _ _ (Nat.le_refl _)⟩
     ·have en:(n==0)=false:=by rw[beq_eq_false_iff_ne];exact hn
      have HR:Hid (R=false):=Lib.hid (by rw[HRR.out,zal];simp[hn])
      go_enter Tryz.func147,Tryz.ntmps147
      go_wp2
      go_ret
      rw[HR.out]
      exact⟨rfl,by first|exact HB.out _|exact zac (HB.out _) _ _ _ (Nat.le_refl _)|exact zac (zac (HB.out _) _ _ _ (Nat.le_refl _)) _ _ _ (Nat.le_refl _)⟩
    ·have g5:(kind==5)=false:=by rw[beq_eq_false_iff_ne];exact h5
     by_cases h4:kind=4
     ·subst h4
      by_cases hn:n=0
      ·subst hn;have en:((0:Int)==0)=true:=rfl
       by_cases hs:s=⟨#[]⟩
       ·subst hs;have es:((⟨#[]⟩:ByteArray).toList==[])=true:=by rw[ByteArray.toList_eq];rfl
        by_cases hq:q=0
        ·have eq':((q:Int)==0)=true:=by rw[beq_iff_eq];omega
         have HR:Hid (R=true):=Lib.hid (by rw[HRR.out,zal];simp[hq])
         go_enter Tryz.func147,Tryz.ntmps147
         go_wp2
         go_ret
         rw[HR.out]
         exact⟨rfl,by first|exact HB.out _|exact zac (HB.out _) _ _ _ (Nat.le_refl _)|exact zac (zac (HB.out _) _ _ _ (Nat.le_refl _)) _ _ _ (Nat.le_refl _)⟩
        ·have eq':((q:Int)==0)=false:=by rw[beq_eq_false_iff_ne];omega
         have HR:Hid (R=false):=Lib.hid (by rw[HRR.out,zal];simp[hq])
         go_enter Tryz.func147,Tryz.ntmps147
         go_wp2
         go_ret
         rw[HR.out]
         exact⟨rfl,by first|exact HB.out _|exact zac (HB.out _) _ _ _ (Nat.le_refl _)|exact zac (zac (HB.out _) _ _ _ (Nat.le_refl _)) _ _ _ (Nat.le_refl _)⟩
       ·obtain⟨es,es2,es3⟩:=zhY hs
        have HR:Hid (R=false):=Lib.hid (by rw[HRR.out,zal];simp[hs])
        go_enter Tryz.func147,Tryz.ntmps147
        go_wp2
        go_ret
        rw[HR.out]
        exact⟨rfl,by first|exact HB.out _|exact zac (HB.out _) _ _ _ (Nat.le_refl _)|exact zac (zac (HB.out _) _ _ _ (Nat.le_refl _)) _ _ _ (Nat.le_refl _)⟩
      ·have en:(n==0)=false:=by rw[beq_eq_false_iff_ne];exact hn
       have HR:Hid (R=false):=Lib.hid (by rw[HRR.out,zal];simp[hn])
       go_enter Tryz.func147,Tryz.ntmps147
       go_wp2
       go_ret
       rw[HR.out]
       exact⟨rfl,by first|exact HB.out _|exact zac (HB.out _) _ _ _ (Nat.le_refl _)|exact zac (zac (HB.out _) _ _ _ (Nat.le_refl _)) _ _ _ (Nat.le_refl _)⟩
     ·have g4:(kind==4)=false:=by rw[beq_eq_false_iff_ne];exact h4
      by_cases hn:n=0
      ·subst hn;have en:((0:Int)==0)=true:=rfl
       by_cases hs:s=⟨#[]⟩
       ·subst hs;have es:((⟨#[]⟩:ByteArray).toList==[])=true:=by rw[ByteArray.toList_eq];rfl
        by_cases hp:p=0
        ·have ep:((p:Int)==0)=true:=by rw[beq_iff_eq];omega
         by_cases hq:q=0
         ·have eq':((q:Int)==0)=true:=by rw[beq_iff_eq];omega
          have HR:Hid (R=true):=Lib.hid (by rw[HRR.out,zal];simp[h1,h2,h3,h5,h4,hp,hq])
          go_enter Tryz.func147,Tryz.ntmps147
          go_wp2
          go_ret
          rw[HR.out]
          exact⟨rfl,by first|exact HB.out _|exact zac (HB.out _) _ _ _ (Nat.le_refl _)|exact zac (zac (HB.out _) _ _ _ (Nat.le_refl _)) _ _ _ (Nat.le_refl _)⟩
         ·have eq':((q:Int)==0)=false:=by rw[beq_eq_false_iff_ne];omega
          have HR:Hid (R=false):=Lib.hid (by rw[HRR.out,zal];simp[h1,h2,h3,h5,h4,hp,hq])
          go_enter Tryz.func147,Tryz.ntmps147
          go_wp2
          go_ret
          rw[HR.out]
          exact⟨rfl,by first|exact HB.out _|exact zac (HB.out _) _ _ _ (Nat.le_refl _)|exact zac (zac (HB.out _) _ _ _ (Nat.le_refl _)) _ _ _ (Nat.le_refl _)⟩
        ·have ep:((p:Int)==0)=false:=by rw[beq_eq_false_iff_ne];omega
         have HR:Hid (R=false):=Lib.hid (by rw[HRR.out,zal];simp[h1,h2,h3,h5,h4,hp])
         go_enter Tryz.func147,Tryz.ntmps147
         go_wp2
         go_ret
         rw[HR.out]
         exact⟨rfl,by first|exact HB.out _|exact zac (HB.out _) _ _ _ (Nat.le_refl _)|exact zac (zac (HB.out _) _ _ _ (Nat.le_refl _)) _ _ _ (Nat.le_refl _)⟩
       ·obtain⟨es,es2,es3⟩:=zhY hs
        have HR:Hid (R=false):=Lib.hid (by rw[HRR.out,zal];simp[h1,h2,h3,h5,h4,hs])
        go_enter Tryz.func147,Tryz.ntmps147
        go_wp2
        go_ret
        rw[HR.out]
        exact⟨rfl,by first|exact HB.out _|exact zac (HB.out _) _ _ _ (Nat.le_refl _)|exact zac (zac (HB.out _) _ _ _ (Nat.le_refl _)) _ _ _ (Nat.le_refl _)⟩
      ·have en:(n==0)=false:=by rw[beq_eq_false_iff_ne];exact hn
       have HR:Hid (R=false):=Lib.hid (by rw[HRR.out,zal];simp[h1,h2,h3,h5,h4,hn])
       go_enter Tryz.func147,Tryz.ntmps147
       go_wp2
       go_ret
       rw[HR.out]
       exact⟨rfl,by first|exact HB.out _|exact zac (HB.out _) _ _ _ (Nat.le_refl _)|exact zac (zac (HB.out _) _ _ _ (Nat.le_refl _)) _ _ _ (Nat.le_refl _)⟩
def RPost (W0:World) (cb:Nat) (r:Bool×Int) (e:Ending) (w':World):Prop:=
 e= .returned (.bool r.1)∧Below W0.heap.size W0 w'∧(r.1=true→Blk w' cb 162 [.int .i64 (256-r.2)]∧0≤r.2∧r.2≤256)
def RAsk (j:J):Prop:= ∀(d left:Int) (W0 w:World) (v:Value) (cb:Nat),RepJ W0 j v→Below W0.heap.size W0 w→W0.heap.size≤cb→Blk w cb 162 [.int .i64 (256-left)]→0≤left→left≤256→1≤d→d≤9→Marks W0→
 Calls Tryz.prog 114 #[.pointer (some ⟨cb,0,none⟩),v,.int .i64 d] w (RPost W0 cb (rgt j d left))
theorem zlV (ks:List ByteArray) (hsz: ∀t∈ks,t.size≤1000000000) (v:Value) (w:World) (h:RepK w ks v) (hm:Marks w):
  Calls Tryz.prog 149 #[v] w fun e w'=>e= .returned (.bool (rnL none ks))∧Below w.heap.size w w':=by
 obtain⟨K,c,rfl,hl,hc⟩:=h.open
 have HC:=Lib.hid hc
 have HSZ:=Lib.hid hsz
 have HM:=Lib.hid hm
 obtain⟨n,hn⟩: ∃n,n=ks.length:=⟨_,rfl⟩
 rw[←hn]at hl⊢
 have HN:=Lib.hid hn
 clear h hc hsz hm hn
 go_enter Tryz.func149,Tryz.ntmps149
 go_wp2
 go_loopw[7] (fun v wr=> ∃k:Nat,k≤n∧v= .int .i64 (k:Int)∧rnL none ks=rnL (if k=0 then none else ks[k-1]?) (ks.drop k)∧Below w.heap.size w wr) (fun v _=>n-(intOf v).toNat)
 case atStart=>exact⟨0,Nat.zero_le _,rfl,rfl,Below.refl _ _⟩
 case round=>
  obtain⟨k,hk,rfl,hrun,hbel⟩:=hrel
  have HRUN:=Lib.hid hrun
  have HBE:=Lib.hid hbel
  clear hrun
  by_cases hlt:k<n
  ·have hkl:k<ks.length:=by rw[←HN.out];exact hlt
   obtain⟨b,o,rfl,hb,_,hcell⟩:=HC.out k hkl
   have q0:=(hbel.cell (p:=⟨b,o+k,none⟩) hb).trans hcell
   have hdr:ks.drop k=ks[k]::ks.drop (k+1):=List.drop_eq_getElem_cons hkl
   have hUT:=zmb ks[k] wr (HM.out.below hbel) (HSZ.out _ (List.getElem_mem hkl))
   have hnx:(if k+1=0 then none else ks[k+1-1]?)=some ks[k]:=by rw[if_neg (by omega),Nat.add_sub_cancel];exact List.getElem?_eq_getElem hkl
   have hi0:(0:Int)≤(k:Int):=by omega
   have hi1:(k:Int)<(n:Int):=by omega
   have hprev:0<k→ ∃p,ks[k-1]? =some p∧ ∀W',Below w.heap.size w W'→W'.cell? ⟨b,o+(k-1),none⟩=some (.string p):=fun h0=>by
    obtain⟨b',o',e',hb',_,hcell'⟩:=HC.out (k-1) (by omega)
    injection e' with e'
    injection e' with e1 e2
    subst e1;subst e2
    exact⟨_,List.getElem?_eq_getElem (by omega),fun W' hW=>(hW.cell (p:=⟨b,o+(k-1),none⟩) hb').trans hcell'⟩
   obtain⟨t,ht⟩: ∃t,t=ks[k]:=⟨_,rfl⟩
   rw[←ht]at q0 hdr hUT hnx
   have HRN:=Lib.hid hnx
   have HD:=Lib.hid hdr
   clear hcell hdr hnx ht
   cases hu:utfS t with
   |false=>
    have HR:Hid (rnL none ks=false):=Lib.hid (by rw[HRUN.out,HD.out,zbi,hu];simp)
    rw[hu]at hUT
    have HUT:=Lib.hid hUT
    clear hu hUT hprev
    go_wp2_with(go_at_call 148;(with_reducible refine HUT.out.mono ?_);rintro e w1 ⟨rfl,hb1⟩;have HB1:=Lib.hid (HBE.out.trans (hb1.mono HBE.out.size));clear hb1)
    go_ret
    rw[HR.out];exact⟨rfl,HB1.out⟩
   |true=>
    rw[hu]at hUT
    have HUT:=Lib.hid hUT
    by_cases hk0:k=0
    ·have HR:Hid (rnL none ks=rnL (if k+1=0 then none else ks[k+1-1]?) (ks.drop (k+1))):=Lib.hid (by rw[HRUN.out,HD.out,zbi,hu,HRN.out,if_pos hk0];simp)
     have hgz: ¬(0:Int)<(k:Int):=by omega
     clear hu hUT hprev hk0
     go_wp2_with(go_at_call 148;(with_reducible refine HUT.out.mono ?_);rintro e w1 ⟨rfl,hb1⟩;have HB1:=Lib.hid (HBE.out.trans (hb1.mono HBE.out.size));clear hb1)
     go_roundw
     case rel=>exact⟨k+1,by omega,by go_num,HR.out,HB1.out⟩
     case measure=>simp[intOf];omega
    ·obtain⟨p,hp,hpc⟩:=hprev (by omega)
     have HPC:=Lib.hid hpc
     have hgz:(0:Int)<(k:Int):=by omega
     have wk:IntKind.i64.wrap ((k:Int)-1)=((k-1:Nat):Int):=by rw[IntKind.wrap_i64];omega
     have hk1:(0:Int)≤((k-1:Nat):Int):=by omega
     have hk2:((k-1:Nat):Int)<(n:Int):=by omega
     cases hl2:Op.bytesLess p.toList t.toList with
     |true=>
      have HR:Hid (rnL none ks=rnL (if k+1=0 then none else ks[k+1-1]?) (ks.drop (k+1))):=Lib.hid (by rw[HRUN.out,HD.out,zbi,hu,HRN.out,if_neg hk0,hp];simp[hl2])
      clear hu hUT hp hpc
      go_wp2_with(go_at_call 148;(with_reducible refine HUT.out.mono ?_);rintro e w1 ⟨rfl,hb1⟩;have HB1:=Lib.hid (HBE.out.trans (hb1.mono HBE.out.size));have q1:=HPC.out _ HB1.out;clear hb1)
      go_roundw
      case rel=>exact⟨k+1,by omega,by go_num,HR.out,HB1.out⟩
      case measure=>simp[intOf];omega
     |false=>
      have HR:Hid (rnL none ks=false):=Lib.hid (by rw[HRUN.out,HD.out,zbi,hu,if_neg hk0,hp];simp[hl2])
      clear hu hUT hp hpc
      go_wp2_with(go_at_call 148;(with_reducible refine HUT.out.mono ?_);rintro e w1 ⟨rfl,hb1⟩;have HB1:=Lib.hid (HBE.out.trans (hb1.mono HBE.out.size));have q1:=HPC.out _ HB1.out;clear hb1)
      go_ret
      rw[HR.out];exact⟨rfl,HB1.out⟩
  ·obtain rfl:k=n:=by omega
   have HR:Hid (rnL none ks=true):=Lib.hid (by rw[HRUN.out,List.drop_of_length_le (by rw[←HN.out];exact Nat.le_refl _)];simp[rnL])
   have hi1: ¬(k:Int)<(k:Int):=by omega
   clear hlt hbel
   go_wp2
   go_ret
   rw[HR.out]
   exact⟨rfl,HBE.out⟩
theorem zir (l:List J) (ih: ∀x∈l,RAsk x) (d left:Int) (W0 w:World) (A:Option Addr) (c cb:Nat) (hc:l≠[]→ ∃b o,A=some ⟨b,o,none⟩∧b<W0.heap.size∧RepC W0 b o l) (hl:l.length≤9223372036854775807) (hb:Below W0.heap.size W0 w) (hcb:W0.heap.size≤cb) (hcc:Blk w cb 162 [.int .i64 (256-left)])
  (h0:0≤left) (h1:left≤256) (d1:1≤d) (d9:d≤9) (hm:Marks W0):
  Calls Tryz.prog 150 #[.pointer (some ⟨cb,0,none⟩),.slice A l.length c,.int .i64 d] w (RPost W0 cb (zcx l d left)):=by
 have HC:=Lib.hid hc
 have HIH:=Lib.hid ih
 have HM:=Lib.hid hm
 have HB:=Lib.hid hb
 have HCC:=Lib.hid hcc
 obtain⟨n,hn⟩: ∃n,n=l.length:=⟨_,rfl⟩
 rw[←hn]at hl⊢
 have HN:=Lib.hid hn
 clear hc ih hm hb hcc hn
 go_enter Tryz.func150,Tryz.ntmps150
 go_wp2
 go_loopw[11] (fun v wr=> ∃(k:Nat) (lf:Int),k≤n∧v= .int .i64 (k:Int)∧zcx l d left=zcx (l.drop k) d lf∧0≤lf∧lf≤256∧Blk wr cb 162 [.int .i64 (256-lf)]∧Below W0.heap.size W0 wr) (fun v _=>n-(intOf v).toNat)
 case atStart=>exact⟨0,left,Nat.zero_le _,rfl,rfl,h0,h1,HCC.out,HB.out⟩
 case round=>
  obtain⟨k,lf,hk,rfl,hrun,l0,l1,hblk,hbel⟩:=hrel
  have HRUN:=Lib.hid hrun
  have HBE:=Lib.hid hbel
  have HBK:=Lib.hid hblk
  clear hrun hblk
  by_cases hlt:k<n
  ·have hkl:k<l.length:=by rw[←HN.out];exact hlt
   obtain⟨g,o,rfl,hg,hrep⟩:=HC.out (fun e=>by rw[e]at hkl;exact absurd hkl (Nat.not_lt_zero _))
   obtain⟨v1,hr1,hf1⟩:=hrep.at k hkl
   have hdr:l.drop k=l[k]::l.drop (k+1):=List.drop_eq_getElem_cons hkl
   have HRA:=Lib.hid (HIH.out l[k] (List.getElem_mem hkl))
   obtain⟨A1,x3,c1,K1,x4,e1,rfl,z0,z1,z2,z3,z4⟩:=hr1.cells hf1
   have z0':=(hbel.cell (p:=⟨g,o+k*5,none⟩) hg).trans z0
   have z1':=(hbel.cell (p:=⟨g,o+k*5+1,none⟩) hg).trans z1
   have z2':=(hbel.cell (p:=⟨g,o+k*5+2,none⟩) hg).trans z2
   have z3':=(hbel.cell (p:=⟨g,o+k*5+3,none⟩) hg).trans z3
   have z4':=(hbel.cell (p:=⟨g,o+k*5+4,none⟩) hg).trans z4
   obtain⟨X,hX⟩: ∃X,X=l[k]:=⟨_,rfl⟩
   rw[←hX]at hdr HRA hr1 z0' z1' z2'
   obtain⟨x0,hx0⟩: ∃x,x=X.kind:=⟨_,rfl⟩
   obtain⟨x1,hx1⟩: ∃x,x=X.n:=⟨_,rfl⟩
   obtain⟨x2,hx2⟩: ∃x,x=X.s:=⟨_,rfl⟩
   rw[←hx0,←hx1,←hx2]at hr1
   rw[←hx0]at z0'
   rw[←hx1]at z1'
   rw[←hx2]at z2'
   have HCALL:=Lib.hid (HRA.out d lf W0 (wr.alloc (.cells #[.int .i64 x0,.int .i64 x1,.string x2,.slice A1 x3 c1,.slice K1 x4 e1] 27)) _ cb hr1 (hbel.alloc hbel.size _) hcb (HBK.out.grownN (World.grownBy_alloc _ _ none)) l0 l1 d1 d9 HM.out)
   have HST:Hid (zcx l d left=if(rgt X d lf).1=true then zcx (l.drop (k+1)) d (rgt X d lf).2 else(false,(rgt X d lf).2)):=Lib.hid (by rw[HRUN.out,hdr,zcx])
   obtain⟨r,hr⟩: ∃r,r=rgt X d lf:=⟨_,rfl⟩
   rw[←hr]at HCALL HST
   have hi0:(0:Int)≤(k:Int):=by omega
   have hi1:(k:Int)<(n:Int):=by omega
   clear hrep hr1 hf1 z0 z1 z2 z3 z4 hx0 hx1 hx2 hX hdr hr hbel HRA
   obtain⟨ok,lf2⟩:=r
   cases ok with
   |true=>
    have HR:Hid (zcx l d left=zcx (l.drop (k+1)) d lf2):=Lib.hid (HST.out.trans (if_pos rfl))
    go_wp2_with(go_at_call 114;(with_reducible refine HCALL.out.mono ?_);rintro e w1 ⟨rfl,hb1,hq1⟩;have HB1:=Lib.hid hb1;have HQ1:=Lib.hid (hq1 rfl);clear hb1 hq1)
    go_roundw
    case rel=>exact⟨k+1,lf2,by omega,by go_num,HR.out,HQ1.out.2.1,HQ1.out.2.2,HQ1.out.1,HB1.out⟩
    case measure=>simp[intOf];omega
   |false=>
    have HR:Hid (zcx l d left=(false,lf2)):=Lib.hid (HST.out.trans (if_neg (by simp)))
    go_wp2_with(go_at_call 114;(with_reducible refine HCALL.out.mono ?_);rintro e w1 ⟨rfl,hb1,hq1⟩;have HB1:=Lib.hid hb1;clear hb1 hq1)
    go_ret
    rw[HR.out];exact⟨rfl,HB1.out,fun h=>by cases h⟩
  ·obtain rfl:k=n:=by omega
   have HR:Hid (zcx l d left=(true,lf)):=Lib.hid (by rw[HRUN.out,List.drop_of_length_le (by rw[←HN.out];exact Nat.le_refl _),zcx])
   have hi1: ¬(k:Int)<(k:Int):=by omega
   clear hlt hbel
   go_wp2
   go_ret
   rw[HR.out]
   exact⟨rfl,HBE.out,fun _=>⟨HBK.out,l0,l1⟩⟩
theorem zie (w:World) (cs:List Value) (t:TypeId):Blk (w.alloc (.cells cs.toArray t)) w.heap.size t cs:=heap_alloc_new w _
theorem right_of (kind n:Int) (s:ByteArray) (l:List J) (k:List ByteArray) (hs:s.size≤1000000000) (hk: ∀t∈k,t.size≤1000000000) (ih: ∀x∈l,RAsk x):RAsk (.mk kind n s l k):=fun d left W0 w v cb hj hb hcb hcc h0 h1 d1 d9 hm=>by
 obtain⟨vk,A,c,rfl,_,hkk,hl,hc⟩:=hj.open
 obtain⟨K,dd,rfl,hkl,_⟩:=hkk.open
 have HKK:=Lib.hid hkk
 have HC:=Lib.hid hc
 have HIH:=Lib.hid ih
 have HM:=Lib.hid hm
 obtain⟨r,hr⟩: ∃r,r=rgt (.mk kind n s l k) d left:=⟨_,rfl⟩
 have hrg:=hr
 rw[rgt]at hrg
 rw[←hr]
 obtain⟨p,hp⟩: ∃p,p=l.length:=⟨_,rfl⟩
 obtain⟨q,hq⟩: ∃q,q=k.length:=⟨_,rfl⟩
 obtain⟨x,hx⟩: ∃x,x=256-left:=⟨_,rfl⟩
 change Calls _ _ #[_,.agg #[.int .i64 kind,.int .i64 n,.string s,.slice A l.length c,.slice K k.length dd],_] _ _
 have HCLN:=Lib.hid (fun W:World=>clean_any kind n s p q c dd A K W)
 rw[←hp,←hq]at hrg⊢
 rw[←hx]at hcc
 obtain⟨CL,hCL⟩: ∃b,b=zcc kind n s p q:=⟨_,rfl⟩
 rw[←hCL]at hrg HCLN
 have HRG:=Lib.hid hrg
 have HP:=Lib.hid hp
 have HQ:=Lib.hid hq
 obtain⟨w1,hw1⟩: ∃z,z=w.alloc (.cells #[.int .i64 kind,.int .i64 n,.string s,.slice A p c,.slice K q dd] 27):=⟨_,rfl⟩
 have hgA:w.grownBy w1 none:=by rw[hw1];exact World.grownBy_alloc _ _ none
 have hX1:Blk w1 w.heap.size 27 [.int .i64 kind,.int .i64 n,.string s,.slice A p c,.slice K q dd]:=by rw[hw1];exact zie w _ _
 have hK1:=hcc.grownN hgA
 have hcl:=hcc.lt
 obtain⟨B,hBB⟩: ∃z,z=w.heap.size:=⟨_,rfl⟩
 have hne:cb≠B:=by omega
 have hK2:Blk (w1.setCell ⟨cb,0,none⟩ (.int .i64 (x+1))) cb 162 [.int .i64 (x+1)]:=hK1.setCell 0 _
 have hX2:Blk (w1.setCell ⟨cb,0,none⟩ (.int .i64 (x+1))) B 27 [.int .i64 kind,.int .i64 n,.string s,.slice A p c,.slice K q dd]:=by rw[hBB];exact hX1.grown (zaV _ _ _ _) (by rw[←hBB];intro e;injection e with e;exact hne e.symm)
 have hB1:Below W0.heap.size W0 w1:=hb.grown hgA hb.size (fun k hk=>by cases hk)
 have hB2:Below W0.heap.size W0 (w1.setCell ⟨cb,0,none⟩ (.int .i64 (x+1))):=hB1.setCell (p:=⟨cb,0,none⟩) hcb _
 have e1:w1.cell? ⟨cb,0,none⟩=some (.int .i64 x):=hK1.cell 0
 have e2:w1.frozen? ⟨cb,0,none⟩=false:=hK1.frozen 0
 have HW1:=Lib.hid hw1
 have HK2:=Lib.hid hK2
 have HX2:=Lib.hid hX2
 have HB2:=Lib.hid hB2
 have HBB:=Lib.hid hBB
 have wx:IntKind.i64.wrap (x+1)=x+1:=by rw[IntKind.wrap_i64];omega
 rw[hw1]at e1 e2
 have hxa:x≤256-left:=by omega
 have hxb:256-left≤x:=by omega
 clear hx hj hb hcc hm hkk hc ih hr hrg hp hq hCL hgA hX1 hK1 hcl hne hK2 hX2 hB1 hB2 hw1 hBB
 go_enter Tryz.func114,Tryz.ntmps114
 go_upto_region 2 with fail
 rw[show w.alloc (.cells #[.int .i64 kind,.int .i64 n,.string s,.slice A p c,.slice K q dd] 27)=w1 from HW1.out.symm]
 obtain⟨w2,hw2⟩: ∃z,z=w1.setCell ⟨cb,0,none⟩ (.int .i64 (x+1)):=⟨_,rfl⟩
 rw[←hw2]at HK2 HX2 HB2⊢
 rw[show w.heap.size=B from HBB.out.symm]
 have a0:w2.cell? ⟨cb,0,none⟩=some (.int .i64 (x+1)):=HK2.out.cell 0
 obtain⟨c0,c1,c2,c3,c4⟩:w2.cell? ⟨B,0,none⟩=some (.int .i64 kind)∧w2.cell? ⟨B,1,none⟩=some (.int .i64 n)∧w2.cell? ⟨B,2,none⟩=some (.string s)∧w2.cell? ⟨B,3,none⟩=some (.slice A p c)∧w2.cell? ⟨B,4,none⟩=some (.slice K q dd):=⟨HX2.out.cell 0,HX2.out.cell 1,HX2.out.cell 2,HX2.out.cell 3,HX2.out.cell 4⟩
 clear e1 e2 hw2
 by_cases hA:left-1<0
 ·have gA:(256:Int)<x+1:=by omega
  have HR:Hid (r=(false,left-1)):=Lib.hid (by rw[HRG.out,if_pos (.inl hA)])
  go_wp2
  go_ret
  rw[HR.out]
  exact⟨rfl,HB2.out,fun h=>by cases h⟩
 have gA: ¬(256:Int)<x+1:=by omega
 cases CL with
 |false=>
  have HR:Hid (r=(false,left-1)):=Lib.hid (by rw[HRG.out,if_pos (.inr rfl)])
  go_wp2_with(first|(go_at_call 147;(with_reducible refine(HCLN.out _).mono ?_);rintro e w3 ⟨rfl,hb3⟩;have HB3:=Lib.hid (HB2.out.trans (hb3.mono HB2.out.size));have HK3:=Lib.hid (Blk.below HK2.out hb3 HK2.out.lt);have HX3:=Lib.hid (Blk.below HX2.out hb3 HX2.out.lt);have b0:w3.cell? ⟨B,0,none⟩=some _:=HX3.out.cell 0;have b1:w3.cell? ⟨B,1,none⟩=some _:=HX3.out.cell 1;have b2:w3.cell? ⟨B,2,none⟩=some _:=HX3.out.cell 2;have b3:w3.cell? ⟨B,3,none⟩=some _:=HX3.out.cell 3;have b4:w3.cell? ⟨B,4,none⟩=some _:=HX3.out.cell 4;clear hb3))
  go_ret
  rw[HR.out]
  exact⟨rfl,HB3.out,fun h=>by cases h⟩
 |true=>
  have HRG:=Lib.hid (HRG.out.trans (if_neg (by intro h;rcases h with h|h;exact hA h;cases h)))
  by_cases h0:kind=0
  ·subst h0
   have HR:Hid (r=(true,left-1)):=Lib.hid (by rw[HRG.out,if_neg (by rintro⟨h,_⟩;omega),if_neg (by omega)];simp[zdu])
   go_wp2_with(first|(go_at_call 147;(with_reducible refine(HCLN.out _).mono ?_);rintro e w3 ⟨rfl,hb3⟩;have HB3:=Lib.hid (HB2.out.trans (hb3.mono HB2.out.size));have HK3:=Lib.hid (Blk.below HK2.out hb3 HK2.out.lt);have HX3:=Lib.hid (Blk.below HX2.out hb3 HX2.out.lt);have b0:w3.cell? ⟨B,0,none⟩=some _:=HX3.out.cell 0;have b1:w3.cell? ⟨B,1,none⟩=some _:=HX3.out.cell 1;have b2:w3.cell? ⟨B,2,none⟩=some _:=HX3.out.cell 2;have b3:w3.cell? ⟨B,3,none⟩=some _:=HX3.out.cell 3;have b4:w3.cell? ⟨B,4,none⟩=some _:=HX3.out.cell 4;clear hb3))
   go_ret
   rw[HR.out]
   exact⟨rfl,HB3.out,fun _=>⟨by rw[show(256:Int)-(left-1)=x+1 by omega];exact HK3.out,by omega,by omega⟩⟩
  have g0:(kind==0)=false:=by rw[beq_eq_false_iff_ne];exact h0
  by_cases h1:kind=1
  ·subst h1
   by_cases hn0:n=0
   ·subst hn0
    have HR:Hid (r=(true,left-1)):=Lib.hid (by rw[HRG.out,if_neg (by rintro⟨h,_⟩;omega),if_neg (by omega)];simp[zdu])
    go_wp2_with(first|(go_at_call 147;(with_reducible refine(HCLN.out _).mono ?_);rintro e w3 ⟨rfl,hb3⟩;have HB3:=Lib.hid (HB2.out.trans (hb3.mono HB2.out.size));have HK3:=Lib.hid (Blk.below HK2.out hb3 HK2.out.lt);have HX3:=Lib.hid (Blk.below HX2.out hb3 HX2.out.lt);have b0:w3.cell? ⟨B,0,none⟩=some _:=HX3.out.cell 0;have b1:w3.cell? ⟨B,1,none⟩=some _:=HX3.out.cell 1;have b2:w3.cell? ⟨B,2,none⟩=some _:=HX3.out.cell 2;have b3:w3.cell? ⟨B,3,none⟩=some _:=HX3.out.cell 3;have b4:w3.cell? ⟨B,4,none⟩=some _:=HX3.out.cell 4;clear hb3))
    go_ret
    rw[HR.out]
    exact⟨rfl,HB3.out,fun _=>⟨by rw[show(256:Int)-(left-1)=x+1 by omega];exact HK3.out,by omega,by omega⟩⟩
   have gn0:(n==0)=false:=by rw[beq_eq_false_iff_ne];exact hn0
   by_cases hn1:n=1
   ·subst hn1
    have HR:Hid (r=(true,left-1)):=Lib.hid (by rw[HRG.out,if_neg (by rintro⟨h,_⟩;omega),if_neg (by omega)];simp[zdu])
    go_wp2_with(first|(go_at_call 147;(with_reducible refine(HCLN.out _).mono ?_);rintro e w3 ⟨rfl,hb3⟩;have HB3:=Lib.hid (HB2.out.trans (hb3.mono HB2.out.size));have HK3:=Lib.hid (Blk.below HK2.out hb3 HK2.out.lt);have HX3:=Lib.hid (Blk.below HX2.out hb3 HX2.out.lt);have b0:w3.cell? ⟨B,0,none⟩=some _:=HX3.out.cell 0;have b1:w3.cell? ⟨B,1,none⟩=some _:=HX3.out.cell 1;have b2:w3.cell? ⟨B,2,none⟩=some _:=HX3.out.cell 2;have b3:w3.cell? ⟨B,3,none⟩=some _:=HX3.out.cell 3;have b4:w3.cell? ⟨B,4,none⟩=some _:=HX3.out.cell 4;clear hb3))
    go_ret
    rw[HR.out]
    exact⟨rfl,HB3.out,fun _=>⟨by rw[show(256:Int)-(left-1)=x+1 by omega];exact HK3.out,by omega,by omega⟩⟩
   have gn1:(n==1)=false:=by rw[beq_eq_false_iff_ne];exact hn1
   have HR:Hid (r=(false,left-1)):=Lib.hid (by rw[HRG.out,if_neg (by rintro⟨h,_⟩;omega),if_neg (by omega)];simp[zdu,hn0,hn1])
   go_wp2_with(first|(go_at_call 147;(with_reducible refine(HCLN.out _).mono ?_);rintro e w3 ⟨rfl,hb3⟩;have HB3:=Lib.hid (HB2.out.trans (hb3.mono HB2.out.size));have HK3:=Lib.hid (Blk.below HK2.out hb3 HK2.out.lt);have HX3:=Lib.hid (Blk.below HX2.out hb3 HX2.out.lt);have b0:w3.cell? ⟨B,0,none⟩=some _:=HX3.out.cell 0;have b1:w3.cell? ⟨B,1,none⟩=some _:=HX3.out.cell 1;have b2:w3.cell? ⟨B,2,none⟩=some _:=HX3.out.cell 2;have b3:w3.cell? ⟨B,3,none⟩=some _:=HX3.out.cell 3;have b4:w3.cell? ⟨B,4,none⟩=some _:=HX3.out.cell 4;clear hb3))
   go_ret
   rw[HR.out]
   exact⟨rfl,HB3.out,fun _=>⟨by rw[show(256:Int)-(left-1)=x+1 by omega];exact HK3.out,by omega,by omega⟩⟩
  have g1:(kind==1)=false:=by rw[beq_eq_false_iff_ne];exact h1
  by_cases h2:kind=2
  ·subst h2
   by_cases hn0: -9007199254740991≤n
   ·have dn0:decide (-9007199254740991≤n)=true:=decide_eq_true hn0
    by_cases hn1:n≤9007199254740991
    ·have dn1:decide (n≤9007199254740991)=true:=decide_eq_true hn1
     have HR:Hid (r=(true,left-1)):=Lib.hid (by rw[HRG.out,if_neg (by rintro⟨h,_⟩;omega),if_neg (by omega)];simp[zdu,hn0,hn1])
     go_wp2_with(first|(go_at_call 147;(with_reducible refine(HCLN.out _).mono ?_);rintro e w3 ⟨rfl,hb3⟩;have HB3:=Lib.hid (HB2.out.trans (hb3.mono HB2.out.size));have HK3:=Lib.hid (Blk.below HK2.out hb3 HK2.out.lt);have HX3:=Lib.hid (Blk.below HX2.out hb3 HX2.out.lt);have b0:w3.cell? ⟨B,0,none⟩=some _:=HX3.out.cell 0;have b1:w3.cell? ⟨B,1,none⟩=some _:=HX3.out.cell 1;have b2:w3.cell? ⟨B,2,none⟩=some _:=HX3.out.cell 2;have b3:w3.cell? ⟨B,3,none⟩=some _:=HX3.out.cell 3;have b4:w3.cell? ⟨B,4,none⟩=some _:=HX3.out.cell 4;clear hb3))
     go_ret
     rw[HR.out]
     exact⟨rfl,HB3.out,fun _=>⟨by rw[show(256:Int)-(left-1)=x+1 by omega];exact HK3.out,by omega,by omega⟩⟩
    ·have dn1:decide (n≤9007199254740991)=false:=decide_eq_false hn1
     have HR:Hid (r=(false,left-1)):=Lib.hid (by rw[HRG.out,if_neg (by rintro⟨h,_⟩;omega),if_neg (by omega)];simp[zdu,hn0,hn1])
     go_wp2_with(first|(go_at_call 147;(with_reducible refine(HCLN.out _).mono ?_);rintro e w3 ⟨rfl,hb3⟩;have HB3:=Lib.hid (HB2.out.trans (hb3.mono HB2.out.size));have HK3:=Lib.hid (Blk.below HK2.out hb3 HK2.out.lt);have HX3:=Lib.hid (Blk.below HX2.out hb3 HX2.out.lt);have b0:w3.cell? ⟨B,0,none⟩=some _:=HX3.out.cell 0;have b1:w3.cell? ⟨B,1,none⟩=some _:=HX3.out.cell 1;have b2:w3.cell? ⟨B,2,none⟩=some _:=HX3.out.cell 2;have b3:w3.cell? ⟨B,3,none⟩=some _:=HX3.out.cell 3;have b4:w3.cell? ⟨B,4,none⟩=some _:=HX3.out.cell 4;clear hb3))
     go_ret
     rw[HR.out]
     exact⟨rfl,HB3.out,fun _=>⟨by rw[show(256:Int)-(left-1)=x+1 by omega];exact HK3.out,by omega,by omega⟩⟩
   ·have dn0:decide (-9007199254740991≤n)=false:=decide_eq_false hn0
    have HR:Hid (r=(false,left-1)):=Lib.hid (by rw[HRG.out,if_neg (by rintro⟨h,_⟩;omega),if_neg (by omega)];simp[zdu,hn0])
    go_wp2_with(first|(go_at_call 147;(with_reducible refine(HCLN.out _).mono ?_);rintro e w3 ⟨rfl,hb3⟩;have HB3:=Lib.hid (HB2.out.trans (hb3.mono HB2.out.size));have HK3:=Lib.hid (Blk.below HK2.out hb3 HK2.out.lt);have HX3:=Lib.hid (Blk.below HX2.out hb3 HX2.out.lt);have b0:w3.cell? ⟨B,0,none⟩=some _:=HX3.out.cell 0;have b1:w3.cell? ⟨B,1,none⟩=some _:=HX3.out.cell 1;have b2:w3.cell? ⟨B,2,none⟩=some _:=HX3.out.cell 2;have b3:w3.cell? ⟨B,3,none⟩=some _:=HX3.out.cell 3;have b4:w3.cell? ⟨B,4,none⟩=some _:=HX3.out.cell 4;clear hb3))
    go_ret
    rw[HR.out]
    exact⟨rfl,HB3.out,fun _=>⟨by rw[show(256:Int)-(left-1)=x+1 by omega];exact HK3.out,by omega,by omega⟩⟩
  have g2:(kind==2)=false:=by rw[beq_eq_false_iff_ne];exact h2
  by_cases h3:kind=3
  ·subst h3
   obtain⟨u,hu⟩: ∃u,u=utfS s:=⟨_,rfl⟩
   have HU:=Lib.hid (fun(W':World) (hW:Below W0.heap.size W0 W')=>zmb s W' (HM.out.below hW) hs)
   rw[←hu]at HU
   have HUU:=Lib.hid hu
   clear hu
   have HR:Hid (r=(u,left-1)):=Lib.hid (by rw[HRG.out,if_neg (by rintro⟨h,_⟩;omega),if_neg (by omega)];simp[zdu,HUU.out])
   go_wp2_with(first|(go_at_call 147;(with_reducible refine(HCLN.out _).mono ?_);rintro e w3 ⟨rfl,hb3⟩;have HB3:=Lib.hid (HB2.out.trans (hb3.mono HB2.out.size));have HK3:=Lib.hid (Blk.below HK2.out hb3 HK2.out.lt);have HX3:=Lib.hid (Blk.below HX2.out hb3 HX2.out.lt);have b0:w3.cell? ⟨B,0,none⟩=some _:=HX3.out.cell 0;have b1:w3.cell? ⟨B,1,none⟩=some _:=HX3.out.cell 1;have b2:w3.cell? ⟨B,2,none⟩=some _:=HX3.out.cell 2;have b3:w3.cell? ⟨B,3,none⟩=some _:=HX3.out.cell 3;have b4:w3.cell? ⟨B,4,none⟩=some _:=HX3.out.cell 4;clear hb3)|(go_at_call 148;(with_reducible refine(HU.out _ HB3.out).mono ?_);rintro e w4 ⟨rfl,hb4⟩;have HB4:=Lib.hid (HB3.out.trans (hb4.mono HB3.out.size));have HK4:=Lib.hid (Blk.below HK3.out hb4 HK3.out.lt);clear hb4))
   go_ret
   rw[HR.out]
   exact⟨rfl,HB4.out,fun _=>⟨by rw[show(256:Int)-(left-1)=x+1 by omega];exact HK4.out,by omega,by omega⟩⟩
  have g3:(kind==3)=false:=by rw[beq_eq_false_iff_ne];exact h3
  by_cases h5:kind=5
  ·subst h5
   by_cases hqp:q=p
   ·have hqz:((q:Int)!=(p:Int))=false:=by rw[hqp];simp
    have HRN:=Lib.hid (fun(W':World) (hW:Below W0.heap.size W0 W')=>zlV k hk (.slice K k.length dd) W' (HKK.out.below hW) (HM.out.below hW))
    rw[←HQ.out]at HRN
    obtain⟨u,hu⟩: ∃u,u=rnL none k:=⟨_,rfl⟩
    rw[←hu]at HRN HRG
    clear hu
    have HQP:=Lib.hid hqp
    clear hqp
    cases u with
    |false=>
     have HR:Hid (r=(false,left-1)):=Lib.hid (by rw[HRG.out,if_pos ⟨rfl,.inr rfl⟩])
     go_wp2_with(first|(go_at_call 147;(with_reducible refine(HCLN.out _).mono ?_);rintro e w3 ⟨rfl,hb3⟩;have HB3:=Lib.hid (HB2.out.trans (hb3.mono HB2.out.size));have HK3:=Lib.hid (Blk.below HK2.out hb3 HK2.out.lt);have HX3:=Lib.hid (Blk.below HX2.out hb3 HX2.out.lt);have b0:w3.cell? ⟨B,0,none⟩=some _:=HX3.out.cell 0;have b1:w3.cell? ⟨B,1,none⟩=some _:=HX3.out.cell 1;have b2:w3.cell? ⟨B,2,none⟩=some _:=HX3.out.cell 2;have b3:w3.cell? ⟨B,3,none⟩=some _:=HX3.out.cell 3;have b4:w3.cell? ⟨B,4,none⟩=some _:=HX3.out.cell 4;clear hb3)|(go_at_call 149;(with_reducible refine(HRN.out _ HB3.out).mono ?_);rintro e w4 ⟨rfl,hb4⟩;have HB4:=Lib.hid (HB3.out.trans (hb4.mono HB3.out.size));have HK4:=Lib.hid (Blk.below HK3.out hb4 HK3.out.lt);have HX4:=Lib.hid (Blk.below HX3.out hb4 HX3.out.lt);have q3:w4.cell? ⟨B,3,none⟩=some (.slice A p c):=HX4.out.cell 3;clear hb4))
     go_ret
     rw[HR.out]
     exact⟨rfl,HB4.out,fun h=>by cases h⟩
    |true=>
     by_cases hd:d≤8
     ·have HR:Hid (r=zcx l (d+1) (left-1)):=Lib.hid (by rw[HRG.out,if_neg (by rintro⟨_,h|h⟩;exact h HQP.out;cases h),if_pos (by omega),if_pos hd])
      have HAR:=Lib.hid (fun(W':World) (hW:Below W0.heap.size W0 W') (hC:Blk W' cb 162 [.int .i64 (x+1)])=>zir l HIH.out (d+1) (left-1) W0 W' A c cb HC.out hl hW hcb (by rw[show(256:Int)-(left-1)=x+1 by omega];exact hC) (by omega) (by omega) (by omega) (by omega) HM.out)
      rw[←HP.out]at HAR
      obtain⟨r',hr'⟩: ∃r',r'=zcx l (d+1) (left-1):=⟨_,rfl⟩
      rw[←hr']at HR HAR
      obtain⟨ok,lf⟩:=r'
      have wd:IntKind.i64.wrap (d+1)=d+1:=by rw[IntKind.wrap_i64];omega
      clear hr'
      go_wp2_with(first|(go_at_call 147;(with_reducible refine(HCLN.out _).mono ?_);rintro e w3 ⟨rfl,hb3⟩;have HB3:=Lib.hid (HB2.out.trans (hb3.mono HB2.out.size));have HK3:=Lib.hid (Blk.below HK2.out hb3 HK2.out.lt);have HX3:=Lib.hid (Blk.below HX2.out hb3 HX2.out.lt);have b0:w3.cell? ⟨B,0,none⟩=some _:=HX3.out.cell 0;have b1:w3.cell? ⟨B,1,none⟩=some _:=HX3.out.cell 1;have b2:w3.cell? ⟨B,2,none⟩=some _:=HX3.out.cell 2;have b3:w3.cell? ⟨B,3,none⟩=some _:=HX3.out.cell 3;have b4:w3.cell? ⟨B,4,none⟩=some _:=HX3.out.cell 4;clear hb3)|(go_at_call 149;(with_reducible refine(HRN.out _ HB3.out).mono ?_);rintro e w4 ⟨rfl,hb4⟩;have HB4:=Lib.hid (HB3.out.trans (hb4.mono HB3.out.size));have HK4:=Lib.hid (Blk.below HK3.out hb4 HK3.out.lt);have HX4:=Lib.hid (Blk.below HX3.out hb4 HX3.out.lt);have q3:w4.cell? ⟨B,3,none⟩=some (.slice A p c):=HX4.out.cell 3;clear hb4)|(go_at_call 150;(with_reducible refine(HAR.out _ HB4.out HK4.out).mono ?_);rintro e w5 ⟨rfl,hb5,hq5⟩;have HB5:=Lib.hid hb5;have HQ5:=Lib.hid hq5;clear hb5 hq5))
      go_ret
      rw[HR.out]
      exact⟨rfl,HB5.out,HQ5.out⟩
     ·have HR:Hid (r=(false,left-1)):=Lib.hid (by rw[HRG.out,if_neg (by rintro⟨_,h|h⟩;exact h HQP.out;cases h),if_pos (by omega),if_neg hd])
      go_wp2_with(first|(go_at_call 147;(with_reducible refine(HCLN.out _).mono ?_);rintro e w3 ⟨rfl,hb3⟩;have HB3:=Lib.hid (HB2.out.trans (hb3.mono HB2.out.size));have HK3:=Lib.hid (Blk.below HK2.out hb3 HK2.out.lt);have HX3:=Lib.hid (Blk.below HX2.out hb3 HX2.out.lt);have b0:w3.cell? ⟨B,0,none⟩=some _:=HX3.out.cell 0;have b1:w3.cell? ⟨B,1,none⟩=some _:=HX3.out.cell 1;have b2:w3.cell? ⟨B,2,none⟩=some _:=HX3.out.cell 2;have b3:w3.cell? ⟨B,3,none⟩=some _:=HX3.out.cell 3;have b4:w3.cell? ⟨B,4,none⟩=some _:=HX3.out.cell 4;clear hb3)|(go_at_call 149;(with_reducible refine(HRN.out _ HB3.out).mono ?_);rintro e w4 ⟨rfl,hb4⟩;have HB4:=Lib.hid (HB3.out.trans (hb4.mono HB3.out.size));have HK4:=Lib.hid (Blk.below HK3.out hb4 HK3.out.lt);have HX4:=Lib.hid (Blk.below HX3.out hb4 HX3.out.lt);have q3:w4.cell? ⟨B,3,none⟩=some (.slice A p c):=HX4.out.cell 3;clear hb4))
      go_ret
      rw[HR.out]
      exact⟨rfl,HB4.out,fun h=>by cases h⟩
   ·have hqz:((q:Int)!=(p:Int))=true:=by rw[bne_iff_ne];omega
    have hqe: ¬(q:Int)=(p:Int):=by omega
    have HR:Hid (r=(false,left-1)):=Lib.hid (by rw[HRG.out,if_pos ⟨rfl,.inl hqp⟩])
    go_wp2_with(first|(go_at_call 147;(with_reducible refine(HCLN.out _).mono ?_);rintro e w3 ⟨rfl,hb3⟩;have HB3:=Lib.hid (HB2.out.trans (hb3.mono HB2.out.size));have HK3:=Lib.hid (Blk.below HK2.out hb3 HK2.out.lt);have HX3:=Lib.hid (Blk.below HX2.out hb3 HX2.out.lt);have b0:w3.cell? ⟨B,0,none⟩=some _:=HX3.out.cell 0;have b1:w3.cell? ⟨B,1,none⟩=some _:=HX3.out.cell 1;have b2:w3.cell? ⟨B,2,none⟩=some _:=HX3.out.cell 2;have b3:w3.cell? ⟨B,3,none⟩=some _:=HX3.out.cell 3;have b4:w3.cell? ⟨B,4,none⟩=some _:=HX3.out.cell 4;clear hb3))
    go_ret
    rw[HR.out]
    exact⟨rfl,HB3.out,fun h=>by cases h⟩
  have g5:(kind==5)=false:=by rw[beq_eq_false_iff_ne];exact h5
  by_cases h4:kind=4
  ·subst h4
   by_cases hd:d≤8
   ·have HR:Hid (r=zcx l (d+1) (left-1)):=Lib.hid (by rw[HRG.out,if_neg (by rintro⟨h,_⟩;omega),if_pos (by omega),if_pos hd])
    have HAR:=Lib.hid (fun(W':World) (hW:Below W0.heap.size W0 W') (hC:Blk W' cb 162 [.int .i64 (x+1)])=>zir l HIH.out (d+1) (left-1) W0 W' A c cb HC.out hl hW hcb (by rw[show(256:Int)-(left-1)=x+1 by omega];exact hC) (by omega) (by omega) (by omega) (by omega) HM.out)
    rw[←HP.out]at HAR
    obtain⟨r',hr'⟩: ∃r',r'=zcx l (d+1) (left-1):=⟨_,rfl⟩
    rw[←hr']at HR HAR
    obtain⟨ok,lf⟩:=r'
    have wd:IntKind.i64.wrap (d+1)=d+1:=by rw[IntKind.wrap_i64];omega
    clear hr'
    go_wp2_with(first|(go_at_call 147;(with_reducible refine(HCLN.out _).mono ?_);rintro e w3 ⟨rfl,hb3⟩;have HB3:=Lib.hid (HB2.out.trans (hb3.mono HB2.out.size));have HK3:=Lib.hid (Blk.below HK2.out hb3 HK2.out.lt);have HX3:=Lib.hid (Blk.below HX2.out hb3 HX2.out.lt);have b0:w3.cell? ⟨B,0,none⟩=some _:=HX3.out.cell 0;have b1:w3.cell? ⟨B,1,none⟩=some _:=HX3.out.cell 1;have b2:w3.cell? ⟨B,2,none⟩=some _:=HX3.out.cell 2;have b3:w3.cell? ⟨B,3,none⟩=some _:=HX3.out.cell 3;have b4:w3.cell? ⟨B,4,none⟩=some _:=HX3.out.cell 4;clear hb3)|(go_at_call 150;(with_reducible refine(HAR.out _ HB3.out HK3.out).mono ?_);rintro e w5 ⟨rfl,hb5,hq5⟩;have HB5:=Lib.hid hb5;have HQ5:=Lib.hid hq5;clear hb5 hq5))
    go_ret
    rw[HR.out]
    exact⟨rfl,HB5.out,HQ5.out⟩
   ·have HR:Hid (r=(false,left-1)):=Lib.hid (by rw[HRG.out,if_neg (by rintro⟨h,_⟩;omega),if_pos (by omega),if_neg hd])
    go_wp2_with(first|(go_at_call 147;(with_reducible refine(HCLN.out _).mono ?_);rintro e w3 ⟨rfl,hb3⟩;have HB3:=Lib.hid (HB2.out.trans (hb3.mono HB2.out.size));have HK3:=Lib.hid (Blk.below HK2.out hb3 HK2.out.lt);have HX3:=Lib.hid (Blk.below HX2.out hb3 HX2.out.lt);have b0:w3.cell? ⟨B,0,none⟩=some _:=HX3.out.cell 0;have b1:w3.cell? ⟨B,1,none⟩=some _:=HX3.out.cell 1;have b2:w3.cell? ⟨B,2,none⟩=some _:=HX3.out.cell 2;have b3:w3.cell? ⟨B,3,none⟩=some _:=HX3.out.cell 3;have b4:w3.cell? ⟨B,4,none⟩=some _:=HX3.out.cell 4;clear hb3))
    go_ret
    rw[HR.out]
    exact⟨rfl,HB3.out,fun h=>by cases h⟩
  have g4:(kind==4)=false:=by rw[beq_eq_false_iff_ne];exact h4
  have HR:Hid (r=(false,left-1)):=Lib.hid (by rw[HRG.out,if_neg (by rintro⟨h,_⟩;omega),if_neg (by omega)];simp[zdu,h0,h1,h2,h3])
  go_wp2_with(first|(go_at_call 147;(with_reducible refine(HCLN.out _).mono ?_);rintro e w3 ⟨rfl,hb3⟩;have HB3:=Lib.hid (HB2.out.trans (hb3.mono HB2.out.size));have HK3:=Lib.hid (Blk.below HK2.out hb3 HK2.out.lt);have HX3:=Lib.hid (Blk.below HX2.out hb3 HX2.out.lt);have b0:w3.cell? ⟨B,0,none⟩=some _:=HX3.out.cell 0;have b1:w3.cell? ⟨B,1,none⟩=some _:=HX3.out.cell 1;have b2:w3.cell? ⟨B,2,none⟩=some _:=HX3.out.cell 2;have b3:w3.cell? ⟨B,3,none⟩=some _:=HX3.out.cell 3;have b4:w3.cell? ⟨B,4,none⟩=some _:=HX3.out.cell 4;clear hb3))
  go_ret
  rw[HR.out]
  exact⟨rfl,HB3.out,fun _=>⟨by rw[show(256:Int)-(left-1)=x+1 by omega];exact HK3.out,by omega,by omega⟩⟩
theorem right_any (j:J):Mild j→RAsk j:=by
 induction j using J.ind with
 |h kind n s l k ih=>
  intro h
  cases h with
  |mk _ _ _ _ _ h1 h2 h3=>exact right_of kind n s l k h1 h2 fun x hx=>ih x hx (h3 x hx)
theorem zdj {w:World} {base n size:Nat} {e:TypeId} {v:Value} {xs:List Value} (h:w.ownsRow base e size v n xs): ∃A c,v= .slice A n c:=by
 rcases h.2 with⟨h,h0⟩|⟨g,cap,cur,h,_⟩
 ·exact⟨none,0,by rw[h0];exact h⟩
 ·exact⟨_,cap,h⟩
structure WSt (W0 w:World) (wb:Nat) (acc:List Int) (v:Value):Prop where
 blk:Blk w wb 118 [v]
 own:w.ownsRow (wb+1) 5 1 v acc.length (ints .u8 acc)
 bel:Below W0.heap.size W0 w
 ge:W0.heap.size≤wb
 bts:Bytes acc
def KeepJ (w w':World):Prop:=w.heap.size≤w'.heap.size∧ ∀b cs,Blk w b 27 cs→Blk w' b 27 cs
theorem KeepJ.refl (w:World):KeepJ w w:=⟨Nat.le_refl _,fun _ _ h=>h⟩
theorem KeepJ.trans {a b c:World} (h:KeepJ a b) (k:KeepJ b c):KeepJ a c:=⟨Nat.le_trans h.1 k.1,fun x cs hx=>k.2 x cs (h.2 x cs hx)⟩
theorem KeepJ.below {a b:World} (h:Below a.heap.size a b):KeepJ a b:=⟨h.size,fun x cs hx=>hx.below h hx.lt⟩
theorem KeepJ.grownN {a b:World} (h:a.grownBy b none):KeepJ a b:=⟨h.size,fun x cs hx=>hx.grownN h⟩
theorem WSt.moved {W0 w w':World} {wb:Nat} {acc:List Int} {v:Value} (h:WSt W0 w wb acc v) (hg:w.grownBy w' none):WSt W0 w' wb acc v:=
 ⟨h.blk.grownN hg,h.own.kept hg (Classical.em _),h.bel.grown hg h.bel.size (fun k hk=>by cases hk),h.ge,h.bts⟩
theorem WSt.below {W0 w w':World} {wb:Nat} {acc:List Int} {v:Value} (h:WSt W0 w wb acc v) (hb:Below w.heap.size w w'):WSt W0 w' wb acc v:=h.moved (zad hb none)
theorem row_notJ {w:World} {base n:Nat} {v:Value} {xs:List Value} (h:w.ownsRow base 5 1 v n xs) {b:Nat} {t:TypeId} {cs:List Value} (hb:Blk w b t cs) (ht:t≠5):v.ownBlock≠some b:=fun e=>by
 rcases h.2 with⟨rfl,_⟩|⟨g,cap,cur,rfl,hg,hcell,_⟩
 ·simp[Value.ownBlock]at e
 ·have e:g=b:=by simpa[Value.ownBlock]using e
  subst e
  have:=hcell.symm.trans hb
  injection this with this
  injection this with _ this
  exact ht this.symm
theorem WSt.more {W0 w w5:World} {wb:Nat} {acc t:List Int} {v v':Value} (h:WSt W0 w wb acc v) (hgr:w.grownBy w5 v.ownBlock) (hown:w5.ownsRow (wb+1) 5 1 v' (acc.length+t.length) (ints .u8 acc++ints .u8 t)) (ht:Bytes t):
  WSt W0 (w5.setCell ⟨wb,0,none⟩ v') wb (acc++t) v'∧KeepJ w (w5.setCell ⟨wb,0,none⟩ v'):=by
 have g7:=zaV w5 wb 0 v'
 have lv:=fun k hk=>(h.own.lt k hk).1
 have b5:Blk w5 wb 118 [v]:=h.blk.grown hgr (fun e=>by have:=lv _ e.symm;omega)
 refine⟨⟨b5.setCell 0 v',?_,?_,h.ge,h.bts.append ht⟩,Nat.le_trans hgr.size g7.size,fun b cs hb=> ?_⟩
 ·rw[List.length_append,zbk]
  refine hown.kept g7 ?_
  cases hv:v'.ownBlock with
  |none=>exact .inl rfl
  |some g=>exact .inr (fun e=>by injection e with e;have:=(hown.lt g hv).1;omega)
 ·have hge:=h.ge
  refine(h.bel.grown hgr h.bel.size (fun k hk=> ?_)).grown g7 (Nat.le_trans h.bel.size hgr.size) (fun k hk=> ?_)
  ·have:=lv k hk;omega
  ·injection hk with hk;omega
 ·have h5:Blk w5 b 27 cs:=hb.grown hgr (fun e=>row_notJ h.own hb (by decide) e.symm)
  exact h5.grown g7 (fun e=>by
   injection e with e
   subst e
   have:=hb.symm.trans h.blk
   injection this with this
   injection this with _ this
   exact absurd this (by decide))
def zod (W0 w:World) (wb:Nat) (acc:List Int) (e:Ending) (w':World):Prop:=e= .returned (.tuple #[])∧(∃v,WSt W0 w' wb acc v)∧KeepJ w w'
theorem zdy (W0 w:World) (wb:Nat) (acc:List Int) (v:Value) (s:ByteArray) (h:WSt W0 w wb acc v) (hlen:acc.length+s.size≤140737488355328):
  Calls Tryz.prog 115 #[.pointer (some ⟨wb,0,none⟩),.string s] w (zod W0 w wb (acc++strL s)):=by
 obtain⟨i0,hi,hz0,hz1,hz2⟩:=info_parts info5
 have HH:=Lib.hid h
 have c0:w.cell? ⟨wb,0,none⟩=some v:=h.blk.cell 0
 have hlt:=h.blk.lt
 have hge:=h.ge
 have HOW:=Lib.hid h.own
 have hs:s.size=(strL s).length:=(zaX s).symm
 have HS:=Lib.hid hs
 obtain⟨n,hn⟩: ∃n,n=acc.length:=⟨_,rfl⟩
 rw[←hn]at HOW hlen
 have HN:=Lib.hid hn
 clear h hs hn
 go_enter Tryz.func115,Tryz.ntmps115
 go_wp2_with(at_builtin;refine Lib.wpList_append_own_string _ rfl _ _ 80 9 rfl (wb+1) 5 i0 Tryz.underlying80 Tryz.underlying9 hi hz0 hz1 hz2 v n _ rfl HOW.out s rfl ?c3 ?c4 ?c5 ?_)
 case c3=>unfold maxLen;omega
 case c4=>omega
 case c5=>omega
 intro v' w2 hown' hgrow _
 have hown2:w2.ownsRow (wb+1) 5 1 v' (acc.length+(strL s).length) (ints .u8 acc++ints .u8 (strL s)):=by
  rw[←HS.out,←HN.out,show ints .u8 (strL s)=Lib.strCells s by simp[Lib.strCells,ints,strL,List.map_map,Function.comp_def]];exact hown'
 have HM:=Lib.hid (HH.out.more hgrow hown2 (zcj s))
 have hb2:Blk w2 wb 118 [v]:=HH.out.blk.grown hgrow (fun e=>by have:=(HH.out.own.lt _ e.symm).1;omega)
 have d0:=hb2.cell 0
 have f0:=hb2.frozen 0
 obtain⟨A',c',hv'⟩:=zdj hown2
 rw[hv']at HM⊢
 clear hown' hgrow hown2 hb2 hv'
 go_wp2
 go_end0
 exact⟨rfl,⟨_,HM.out.1⟩,HM.out.2⟩
theorem full_any (W0 w:World) (wb:Nat) (acc:List Int) (v:Value) (h:WSt W0 w wb acc v):
  Calls Tryz.prog 83 #[.pointer (some ⟨wb,0,none⟩)] w fun e w'=>e= .returned (.bool (decide (4096<acc.length)))∧w=w':=by
 obtain⟨A,c,rfl⟩:=zdj h.own
 have c0:w.cell? ⟨wb,0,none⟩=some (.slice A acc.length c):=h.blk.cell 0
 obtain⟨n,hn⟩: ∃n,n=acc.length:=⟨_,rfl⟩
 rw[←hn]at c0⊢
 clear h hn
 go_enter Tryz.func83,Tryz.ntmps83
 go_wp2
 go_ret
 have hd:decide ((4096:Int)<(n:Int))=decide (4096<n):=by
  by_cases h:4096<n
  ·rw[decide_eq_true h];exact decide_eq_true (by omega)
  ·rw[decide_eq_false h];exact decide_eq_false (by omega)
 exact⟨congrArg (fun b=>Ending.returned (.bool b)) hd,rfl⟩
theorem truth_any (W0 w:World) (wb:Nat) (acc:List Int) (v:Value) (n:Int) (h:WSt W0 w wb acc v) (hlen:acc.length+10≤140737488355328):
  Calls Tryz.prog 116 #[.pointer (some ⟨wb,0,none⟩),.int .i64 n] w (zod W0 w wb (acc++(if n=0 then[102,97,108,115,101]else[116,114,117,101]))):=by
 have HP:=Lib.hid (fun s (hs:s.size≤10)=>zdy W0 w wb acc v s h (by omega))
 clear h
 by_cases h0:n=0
 ·rw[if_pos h0]
  have h0':(n==0)=true:=by rw[beq_iff_eq];exact h0
  clear h0
  go_enter Tryz.func116,Tryz.ntmps116
  go_wp2_with(go_at_call 115;(with_reducible refine(HP.out _ (by decide)).mono ?_);rintro e w' ⟨rfl,hw,hk⟩;have HF:=Lib.hid (And.intro hw hk);clear hw hk)
  go_end0
  exact⟨rfl,HF.out.1,HF.out.2⟩
 ·rw[if_neg h0]
  have h0':(n==0)=false:=by rw[beq_eq_false_iff_ne];exact h0
  go_enter Tryz.func116,Tryz.ntmps116
  go_wp2_with(go_at_call 115;(with_reducible refine(HP.out _ (by decide)).mono ?_);rintro e w' ⟨rfl,hw,hk⟩;have HF:=Lib.hid (And.intro hw hk);clear hw hk)
  go_end0
  exact⟨rfl,HF.out.1,HF.out.2⟩
def Wr (acc t acc':List Int):Prop:=acc'=acc++t∨(4096<acc'.length∧4096<acc.length+t.length∧acc'.length≤acc.length+t.length)
theorem Wr.len {acc t acc':List Int} (h:Wr acc t acc'):acc'.length≤acc.length+t.length:=by
 rcases h with rfl|⟨_,_,h⟩
 ·rw[List.length_append];exact Nat.le_refl _
 ·exact h
theorem Wr.trans {a t b u c:List Int} (h:Wr a t b) (k:Wr b u c):Wr a (t++u) c:=by
 have hl:=h.len
 have kl:=k.len
 have e:(t++u).length=t.length+u.length:=List.length_append
 rcases h with rfl|⟨h1,h2,h3⟩
 ·rcases k with rfl|⟨k1,k2,k3⟩
  ·exact .inl (by rw[List.append_assoc])
  ·rw[List.length_append]at k2 k3
   exact .inr ⟨k1,by omega,by omega⟩
 ·rcases k with rfl|⟨k1,k2,k3⟩
  ·refine .inr ⟨?_,by omega,by omega⟩
   rw[List.length_append];omega
  ·exact .inr ⟨k1,by omega,by omega⟩
theorem qPre_mono (l:List Int) {k n:Nat} (h:k≤n):(qPre l k).length≤(qPre l n).length:=by
 induction n with
 |zero=>rw[Nat.le_zero.1 h];exact Nat.le_refl _
 |succ n ih=>
  by_cases e:k=n+1
  ·rw[e];exact Nat.le_refl _
  ·have:=ih (by omega)
   rw[qPre,List.length_append];omega
theorem and15_nat: ∀i:Fin 32,bits .and .u8 (i.val:Int) 15=(i.val:Int)%16:=by decide+kernel
theorem and15 (c:Int) (h0:0≤c) (h1:c<32):bits .and .u8 c 15=c%16:=by
 have:=and15_nat ⟨c.toNat,by omega⟩
 rwa [show(((⟨c.toNat,by omega⟩:Fin 32).val:Nat):Int)=c from by show((c.toNat:Nat):Int)=c;omega]at this
theorem qOne_bytes {c:Int} (h0:0≤c) (h1:c≤255):Bytes (qOne c):=by
 refine .of_mem fun x hx=> ?_
 unfold qOne at hx
 split at hx
 ·have e1:c/16<10:=by omega
  have e2:0≤c/16∧0≤c%16∧c%16<16:=by omega
  unfold hexS at hx
  simp only[List.mem_cons,List.not_mem_nil,or_false]at hx
  rcases hx with rfl|rfl|rfl|rfl|rfl|rfl<;>(try omega)<;>(split<;>omega)
 ·split at hx
  ·simp only[List.mem_cons,List.not_mem_nil,or_false]at hx
   rcases hx with rfl|rfl<;>omega
  ·simp only[List.mem_cons,List.not_mem_nil,or_false]at hx
   rcases hx with rfl;omega
theorem zkQ (W0 w:World) (wb:Nat) (acc:List Int) (v:Value) (s:ByteArray) (h:WSt W0 w wb acc v) (hs:s.size≤1000000000) (hlen:acc.length≤100000000000000):
  Calls Tryz.prog 118 #[.pointer (some ⟨wb,0,none⟩),.string s] w fun e w'=> ∃acc',Wr acc (zam (strL s)) acc'∧zod W0 w wb acc' e w':=by
 obtain⟨i0,hi,hz0,hz1,hz2⟩:=info_parts info5
 have HPQ:=Lib.hid (zdy W0 w wb acc v ⟨#[34]⟩ h (by show acc.length+1≤_;omega))
 have HLEN:=Lib.hid (zaX s)
 clear h
 go_enter Tryz.func118,Tryz.ntmps118
 go_wp2_with(go_at_call 115;(with_reducible refine HPQ.out.mono ?_);rintro e w1 ⟨rfl,hw,hk⟩;have HW1:=Lib.hid hw;have HK1:=Lib.hid hk;clear hw hk)
 go_loopw[4] (fun u wr=> ∃k:Nat,k≤s.size∧u= .int .i64 (k:Int)∧(∃v1,WSt W0 wr wb (acc++qPre (strL s) k) v1)∧KeepJ w wr) (fun u _=>s.size-(intOf u).toNat)
 case atStart=>exact⟨0,Nat.zero_le _,rfl,HW1.out,HK1.out⟩
 case round=>
  obtain⟨k,hk,rfl,⟨v1,hI⟩,hKJ⟩:=hrel
  obtain⟨AC,hAC⟩: ∃x,x=acc++qPre (strL s) k:=⟨_,rfl⟩
  rw[←hAC]at hI
  have HAC:=Lib.hid hAC
  have HI:=Lib.hid hI
  have HKJ:=Lib.hid hKJ
  have HOW:=Lib.hid hI.own
  have p0:wr.cell? ⟨wb,0,none⟩=some v1:=hI.blk.cell 0
  have hltw:=hI.blk.lt
  have hq6:=zni (strL s) k
  have hACl:AC.length=acc.length+(qPre (strL s) k).length:=by rw[hAC,List.length_append]
  obtain⟨n,hn⟩: ∃n,n=AC.length:=⟨_,rfl⟩
  rw[←hn]at HOW hACl
  have HN:=Lib.hid hn
  have hn2:n≤110000000000000:=by omega
  have HFU:=Lib.hid (full_any W0 wr wb AC v1 hI)
  have HPE:=Lib.hid (zdy W0 wr wb AC v1 ⟨#[34]⟩ hI (by rw[←hn];show n+1≤_;omega))
  clear hI hKJ hAC hn hACl hq6
  by_cases hlt:k<s.size
  ·have hkI:(k:Int)<(s.size:Int):=by omega
   have hk0:(0:Int)≤(k:Int):=by omega
   by_cases hfull:4096<AC.length
   ·have hfd:decide (4096<AC.length)=true:=decide_eq_true hfull
    rw[hfd]at HFU
    go_wp2_with(first|(go_at_call 83;(with_reducible refine HFU.out.mono ?_);rintro e w' ⟨rfl,rfl⟩)|(go_at_call 115;(with_reducible refine HPE.out.mono ?_);rintro e w' ⟨rfl,hw,hk⟩;have HF:=Lib.hid (And.intro hw hk);clear hw hk))
    go_end0
    refine⟨AC++strL ⟨#[34]⟩,.inr ?_,rfl,HF.out.1,HKJ.out.trans HF.out.2⟩
    have hm:=qPre_mono (strL s) (Nat.le_of_lt hlt)
    have hac:=congrArg List.length HAC.out
    rw[List.length_append]at hac
    have h34:(strL (⟨#[34]⟩:ByteArray)).length=1:=by rw[zaX];rfl
    have hql:(zam (strL s)).length=(qPre (strL s) s.size).length+1:=by rw[zam,HLEN.out,List.length_append];rfl
    rw[List.length_append,h34,hql]
    omega
   ·have hfd:decide (4096<AC.length)=false:=decide_eq_false hfull
    rw[hfd]at HFU
    have HG:=Lib.hid (zaz s k hlt)
    obtain⟨c,hc⟩: ∃c:Int,c=(s[k].toNat:Int):=⟨_,rfl⟩
    have hcb:0≤c∧c≤255:=by rw[hc];have:=(s[k]).toNat_lt;omega
    have HNX:Hid (acc++qPre (strL s) (k+1)=AC++qOne c):=Lib.hid (by rw[qPre,HG.out,←hc,HAC.out,List.append_assoc])
    obtain⟨c0,c1⟩:=hcb
    have HBY:=Lib.hid (qOne_bytes c0 c1)
    clear hfull
    by_cases h32:c<32
    ·have HE:Hid (qOne c=[92,117,48,48,hexS (c/16),hexS (c%16)]):=Lib.hid (by unfold qOne;rw[if_pos h32])
     have hc2:(s[k].toNat:Int)=c:=hc.symm
     have hq0:0≤c/16:=by omega
     have hq1:c/16<16:=by omega
     have hr0:0≤c%16:=by omega
     have hr1:c%16<16:=by omega
     have hwq:IntKind.u8.wrap (c/16)=c/16:=by rw[IntKind.wrap_u8];omega
     have hwr:IntKind.u8.wrap (c%16)=c%16:=by rw[IntKind.wrap_u8];omega
     have hp1:Hid ((c/16).toNat<((⟨#[48,49,50,51,52,53,54,55,56,57,97,98,99,100,101,102]⟩:ByteArray)).size):=Lib.hid (by show _<16;omega)
     have hp2:Hid ((c%16).toNat<((⟨#[48,49,50,51,52,53,54,55,56,57,97,98,99,100,101,102]⟩:ByteArray)).size):=Lib.hid (by show _<16;omega)
     have HS6:Hid (ints .u8 [92,117,48,48,hexS (c/16),hexS (c%16)]=[.int .u8 92,.int .u8 117,.int .u8 48,.int .u8 48,.int .u8 ((⟨#[48,49,50,51,52,53,54,55,56,57,97,98,99,100,101,102]⟩:ByteArray)[(c/16).toNat]'(hp1.out)).toNat,.int .u8 ((⟨#[48,49,50,51,52,53,54,55,56,57,97,98,99,100,101,102]⟩:ByteArray)[(c%16).toNat]'(hp2.out)).toNat]):=Lib.hid (by rw[←zjb _ hq0 hq1,←zjb _ hr0 hr1];rfl)
     have p0d:wr.drew.cell? ⟨wb,0,none⟩=some v1:=p0
     clear hc
     go_wp2_with(go_at_call 83;(with_reducible refine HFU.out.mono ?_);rintro e w' ⟨rfl,rfl⟩)
     have HGN:Hid (wr.grownBy ((wr.drew).alloc (.cells #[.int .u8 92,.int .u8 117,.int .u8 48,.int .u8 48,.int .u8 ((⟨#[48,49,50,51,52,53,54,55,56,57,97,98,99,100,101,102]⟩:ByteArray)[(c/16).toNat]'(hp1.out)).toNat,.int .u8 ((⟨#[48,49,50,51,52,53,54,55,56,57,97,98,99,100,101,102]⟩:ByteArray)[(c%16).toNat]'(hp2.out)).toNat] 5)) none):=Lib.hid ((zaJ (zae wr none)).trans (World.grownBy_alloc _ _ none))
     have p1d:((wr.drew).alloc (.cells #[.int .u8 92,.int .u8 117,.int .u8 48,.int .u8 48,.int .u8 ((⟨#[48,49,50,51,52,53,54,55,56,57,97,98,99,100,101,102]⟩:ByteArray)[(c/16).toNat]'(hp1.out)).toNat,.int .u8 ((⟨#[48,49,50,51,52,53,54,55,56,57,97,98,99,100,101,102]⟩:ByteArray)[(c%16).toNat]'(hp2.out)).toNat] 5)).cell? ⟨wb,0,none⟩=some v1:=zeX p0 HGN.out
     have h15:bits .and .u8 c 15=c%16:=and15 c c0 h32
     go_region_law(first
      |(refine step_append_lies _ (by rfl) _ _ _ (by rfl) (wb+1) 5 i0 (.int .u8 0) 1 1 Tryz.underlying80 hi hz0 hz1 hz2 rfl (by omega) v1 n (ints .u8 AC) (by rfl) (HOW.out.kept HGN.out (Classical.em _)) ⟨wr.heap.size,0,none⟩ 6 6 [.int .u8 92,.int .u8 117,.int .u8 48,.int .u8 48,.int .u8 ((⟨#[48,49,50,51,52,53,54,55,56,57,97,98,99,100,101,102]⟩:ByteArray)[(c/16).toNat]'(hp1.out)).toNat,.int .u8 ((⟨#[48,49,50,51,52,53,54,55,56,57,97,98,99,100,101,102]⟩:ByteArray)[(c%16).toNat]'(hp2.out)).toNat] (by rfl) (by rfl) (World.news_of_block (cs:= #[.int .u8 92,.int .u8 117,.int .u8 48,.int .u8 48,.int .u8 ((⟨#[48,49,50,51,52,53,54,55,56,57,97,98,99,100,101,102]⟩:ByteArray)[(c/16).toNat]'(hp1.out)).toNat,.int .u8 ((⟨#[48,49,50,51,52,53,54,55,56,57,97,98,99,100,101,102]⟩:ByteArray)[(c%16).toNat]'(hp2.out)).toNat]) (t:=5) (fr:=(0,0)) (heap_alloc_new wr.drew _)) (by simp[Value.oneCell']) (by omega) (by unfold maxLen;omega) (by omega) (by simp;omega) (wr.heap.size+1) (by simp) ?_
        intro gg cap w2 hown' hgrow hat hlt2
        have hb2:Blk w2 wb 118 [v1]:=(HI.out.blk.grownN HGN.out).grown hgrow (fun e=>by have:=(HI.out.own.lt _ e.symm).1;omega)
        have d2:=hb2.cell 0
        have f2:=hb2.frozen 0
        clear hb2
        try go_frame))
     all_goals
      have hown2:w2.ownsRow (wb+1) 5 1 (.slice (some ⟨gg,0,none⟩) (n+6) cap) (AC.length+([92,117,48,48,hexS (c/16),hexS (c%16)]:List Int).length) (ints .u8 AC++ints .u8 [92,117,48,48,hexS (c/16),hexS (c%16)]):=by rw[←HN.out,HS6.out];exact hown'
      have hM:=(HI.out.moved HGN.out).more hgrow hown2 (by have:=HBY.out;rwa [HE.out]at this)
      have HM:=Lib.hid (And.intro hM.1 ((KeepJ.grownN HGN.out).trans hM.2))
      clear hown' hgrow hat hlt2 hown2 hM d2 f2 p0 p0d p1d
      go_wp2
      go_roundw
      case rel=>exact⟨k+1,by omega,by go_num,⟨_,by rw[HNX.out,HE.out];exact HM.out.1⟩,HKJ.out.trans HM.out.2⟩
      case measure=>simp[intOf];omega
    ·by_cases hq:c=34∨c=92
     ·have HE:Hid (qOne c=[92,c]):=Lib.hid (by unfold qOne;rw[if_neg h32,if_pos hq])
      have hnl: ¬(s[k].toNat:Int)<32:=by rw[←hc];exact h32
      have HCC:=Lib.hid hc
      rw[hc]at hq
      have hby:Bytes [(s[k].toNat:Int)]:= .of_mem fun y hy=>by rw[List.mem_singleton.1 hy,←hc];exact⟨c0,c1⟩
      have HBB:=Lib.hid hby
      have key:((s[k].toNat:Int)==34)=true∨((s[k].toNat:Int)==34)=false∧((s[k].toNat:Int)==92)=true:=by
       rcases hq with hq|hq
       ·exact .inl (by rw[beq_iff_eq];exact hq)
       ·exact .inr ⟨by rw[hq];rfl,by rw[beq_iff_eq];exact hq⟩
      clear hq hc h32 c0 c1 hby
      rcases key with n1|⟨n1,n2⟩
      ·skip
       go_wp2_with(first|(go_at_call 83;(with_reducible refine HFU.out.mono ?_);rintro e w' ⟨rfl,rfl⟩)|(at_builtin;refine wpList_append_own _ rfl _ _ 80 rfl (wb+1) 5 i0 (.int .u8 0) 1 1 Tryz.underlying80 hi hz0 hz1 hz2 rfl (by decide) v1 n _ rfl (HOW.out.alloc _) ⟨wr.heap.size,0,none⟩ 1 1 [.int .u8 92] rfl rfl ?xa1 ?xa2 ?xa3 ?xa4 ?xa5 ?_))
       case xa1=>exact cell_one_new _ _ _
       case xa2=>first|rfl|(intro u hu;rw[List.mem_singleton.1 hu];rfl)
       case xa3=>unfold maxLen;omega
       case xa4=>omega
       case xa5=>first|omega|(simp;omega)
       intro v2 w2 hown' hgrow _
       have hgA:=World.grownBy_alloc wr (.cells #[.int .u8 92] 5) none
       have hown2:w2.ownsRow (wb+1) 5 1 v2 (AC.length+([92]:List Int).length) (ints .u8 AC++ints .u8 [92]):=by rw[←HN.out];exact hown'
       have hM:=(HI.out.moved hgA).more hgrow hown2 (.of_mem (by decide))
       have hb2:Blk w2 wb 118 [v1]:=(HI.out.moved hgA).blk.grown hgrow (fun e=>by have:=(HI.out.own.lt _ e.symm).1;omega)
       have HM1:=Lib.hid (And.intro hM.1 ((KeepJ.grownN hgA).trans hM.2))
       have d0xa:=hb2.cell 0
       have f0xa:=hb2.frozen 0
       obtain⟨Axa,cxa,hv2⟩:=zdj hown2
       rw[hv2]at HM1⊢
       clear hown' hgrow hgA hown2 hM hb2 hv2
       clear p0
       go_upto_region 10 with fail
       clear d0xa f0xa
       obtain⟨vz,hvz⟩: ∃z,z=Value.slice Axa (AC.length+([92]:List Int).length) cxa:=⟨_,rfl⟩
       have hvz':vz=Value.slice Axa (AC.length+1) cxa:=by rw[hvz];rfl
       rw[←hvz]at HM1
       rw[←hvz']
       obtain⟨wz,hwz⟩: ∃z,z=w2.setCell ⟨wb,0,none⟩ vz:=⟨_,rfl⟩
       rw[←hwz]at HM1⊢
       obtain⟨AZ,hAZ⟩: ∃z,z=AC++[92]:=⟨_,rfl⟩
       rw[←hAZ]at HM1
       have HIZ:=Lib.hid HM1.out.1
       have HAZ:=Lib.hid hAZ
       obtain⟨nz,hnz⟩: ∃z,z=AZ.length:=⟨_,rfl⟩
       have hnzn:nz=n+1:=by rw[hnz,hAZ,List.length_append,←HN.out];rfl
       have HNZ:=Lib.hid hnz
       have HOWZ:Hid (wz.ownsRow (wb+1) 5 1 vz nz (ints .u8 AZ)):=Lib.hid (by rw[hnz];exact HIZ.out.own)
       have hltz:=HIZ.out.blk.lt
       have pz0:wz.cell? ⟨wb,0,none⟩=some vz:=HIZ.out.blk.cell 0
       have hnz2:nz≤110000000000001:=by omega
       clear hwz hAZ hnz hnzn hvz hvz'
       go_wp2_with(first|(go_at_call 83;(with_reducible refine HFU.out.mono ?_);rintro e w' ⟨rfl,rfl⟩)|(at_builtin;refine wpList_append_own _ rfl _ _ 80 rfl (wb+1) 5 i0 (.int .u8 0) 1 1 Tryz.underlying80 hi hz0 hz1 hz2 rfl (by decide) vz nz _ rfl (HOWZ.out.alloc _) ⟨wz.heap.size,0,none⟩ 1 1 [.int .u8 (s[k].toNat:Int)] rfl rfl ?xb1 ?xb2 ?xb3 ?xb4 ?xb5 ?_))
       case xb1=>exact cell_one_new _ _ _
       case xb2=>first|rfl|(intro u hu;rw[List.mem_singleton.1 hu];rfl)
       case xb3=>unfold maxLen;omega
       case xb4=>omega
       case xb5=>first|omega|(simp;omega)
       intro v3 w3 hown' hgrow _
       have hgA:=World.grownBy_alloc wz (.cells #[.int .u8 (s[k].toNat:Int)] 5) none
       have hown2:w3.ownsRow (wb+1) 5 1 v3 (AZ.length+([(s[k].toNat:Int)]:List Int).length) (ints .u8 AZ++ints .u8 [(s[k].toNat:Int)]):=by rw[←HNZ.out];exact hown'
       have hM:=(HIZ.out.moved hgA).more hgrow hown2 (HBB.out)
       have hb2:Blk w3 wb 118 [vz]:=(HIZ.out.moved hgA).blk.grown hgrow (fun e=>by have:=(HIZ.out.own.lt _ e.symm).1;omega)
       have HM2:=Lib.hid (And.intro hM.1 ((KeepJ.grownN hgA).trans hM.2))
       have d0xb:=hb2.cell 0
       have f0xb:=hb2.frozen 0
       obtain⟨Axb,cxb,hv2⟩:=zdj hown2
       rw[hv2]at HM2⊢
       clear hown' hgrow hgA hown2 hM hb2 hv2
       clear pz0
       go_wp2
       go_roundw
       case rel=>exact⟨k+1,by omega,by go_num,⟨_,by rw[HNX.out,HE.out,HCC.out,show AC++[92,(s[k].toNat:Int)]=(AC++[92])++[(s[k].toNat:Int)]by simp,←HAZ.out];exact HM2.out.1⟩,(HKJ.out.trans HM1.out.2).trans HM2.out.2⟩
       case measure=>simp[intOf];omega
      ·skip
       go_wp2_with(first|(go_at_call 83;(with_reducible refine HFU.out.mono ?_);rintro e w' ⟨rfl,rfl⟩)|(at_builtin;refine wpList_append_own _ rfl _ _ 80 rfl (wb+1) 5 i0 (.int .u8 0) 1 1 Tryz.underlying80 hi hz0 hz1 hz2 rfl (by decide) v1 n _ rfl (HOW.out.alloc _) ⟨wr.heap.size,0,none⟩ 1 1 [.int .u8 92] rfl rfl ?ya1 ?ya2 ?ya3 ?ya4 ?ya5 ?_))
       case ya1=>exact cell_one_new _ _ _
       case ya2=>first|rfl|(intro u hu;rw[List.mem_singleton.1 hu];rfl)
       case ya3=>unfold maxLen;omega
       case ya4=>omega
       case ya5=>first|omega|(simp;omega)
       intro v2 w2 hown' hgrow _
       have hgA:=World.grownBy_alloc wr (.cells #[.int .u8 92] 5) none
       have hown2:w2.ownsRow (wb+1) 5 1 v2 (AC.length+([92]:List Int).length) (ints .u8 AC++ints .u8 [92]):=by rw[←HN.out];exact hown'
       have hM:=(HI.out.moved hgA).more hgrow hown2 (.of_mem (by decide))
       have hb2:Blk w2 wb 118 [v1]:=(HI.out.moved hgA).blk.grown hgrow (fun e=>by have:=(HI.out.own.lt _ e.symm).1;omega)
       have HM1:=Lib.hid (And.intro hM.1 ((KeepJ.grownN hgA).trans hM.2))
       have d0ya:=hb2.cell 0
       have f0ya:=hb2.frozen 0
       obtain⟨Aya,cya,hv2⟩:=zdj hown2
       rw[hv2]at HM1⊢
       clear hown' hgrow hgA hown2 hM hb2 hv2
       clear p0
       go_upto_region 10 with fail
       clear d0ya f0ya
       obtain⟨vz,hvz⟩: ∃z,z=Value.slice Aya (AC.length+([92]:List Int).length) cya:=⟨_,rfl⟩
       have hvz':vz=Value.slice Aya (AC.length+1) cya:=by rw[hvz];rfl
       rw[←hvz]at HM1
       rw[←hvz']
       obtain⟨wz,hwz⟩: ∃z,z=w2.setCell ⟨wb,0,none⟩ vz:=⟨_,rfl⟩
       rw[←hwz]at HM1⊢
       obtain⟨AZ,hAZ⟩: ∃z,z=AC++[92]:=⟨_,rfl⟩
       rw[←hAZ]at HM1
       have HIZ:=Lib.hid HM1.out.1
       have HAZ:=Lib.hid hAZ
       obtain⟨nz,hnz⟩: ∃z,z=AZ.length:=⟨_,rfl⟩
       have hnzn:nz=n+1:=by rw[hnz,hAZ,List.length_append,←HN.out];rfl
       have HNZ:=Lib.hid hnz
       have HOWZ:Hid (wz.ownsRow (wb+1) 5 1 vz nz (ints .u8 AZ)):=Lib.hid (by rw[hnz];exact HIZ.out.own)
       have hltz:=HIZ.out.blk.lt
       have pz0:wz.cell? ⟨wb,0,none⟩=some vz:=HIZ.out.blk.cell 0
       have hnz2:nz≤110000000000001:=by omega
       clear hwz hAZ hnz hnzn hvz hvz'
       go_wp2_with(first|(go_at_call 83;(with_reducible refine HFU.out.mono ?_);rintro e w' ⟨rfl,rfl⟩)|(at_builtin;refine wpList_append_own _ rfl _ _ 80 rfl (wb+1) 5 i0 (.int .u8 0) 1 1 Tryz.underlying80 hi hz0 hz1 hz2 rfl (by decide) vz nz _ rfl (HOWZ.out.alloc _) ⟨wz.heap.size,0,none⟩ 1 1 [.int .u8 (s[k].toNat:Int)] rfl rfl ?yb1 ?yb2 ?yb3 ?yb4 ?yb5 ?_))
       case yb1=>exact cell_one_new _ _ _
       case yb2=>first|rfl|(intro u hu;rw[List.mem_singleton.1 hu];rfl)
       case yb3=>unfold maxLen;omega
       case yb4=>omega
       case yb5=>first|omega|(simp;omega)
       intro v3 w3 hown' hgrow _
       have hgA:=World.grownBy_alloc wz (.cells #[.int .u8 (s[k].toNat:Int)] 5) none
       have hown2:w3.ownsRow (wb+1) 5 1 v3 (AZ.length+([(s[k].toNat:Int)]:List Int).length) (ints .u8 AZ++ints .u8 [(s[k].toNat:Int)]):=by rw[←HNZ.out];exact hown'
       have hM:=(HIZ.out.moved hgA).more hgrow hown2 (HBB.out)
       have hb2:Blk w3 wb 118 [vz]:=(HIZ.out.moved hgA).blk.grown hgrow (fun e=>by have:=(HIZ.out.own.lt _ e.symm).1;omega)
       have HM2:=Lib.hid (And.intro hM.1 ((KeepJ.grownN hgA).trans hM.2))
       have d0yb:=hb2.cell 0
       have f0yb:=hb2.frozen 0
       obtain⟨Ayb,cyb,hv2⟩:=zdj hown2
       rw[hv2]at HM2⊢
       clear hown' hgrow hgA hown2 hM hb2 hv2
       clear pz0
       go_wp2
       go_roundw
       case rel=>exact⟨k+1,by omega,by go_num,⟨_,by rw[HNX.out,HE.out,HCC.out,show AC++[92,(s[k].toNat:Int)]=(AC++[92])++[(s[k].toNat:Int)]by simp,←HAZ.out];exact HM2.out.1⟩,(HKJ.out.trans HM1.out.2).trans HM2.out.2⟩
       case measure=>simp[intOf];omega
     ·have n1:(c==34)=false:=by rw[beq_eq_false_iff_ne];omega
      have n2:(c==92)=false:=by rw[beq_eq_false_iff_ne];omega
      have HE:Hid (qOne c=[c]):=Lib.hid (by unfold qOne;rw[if_neg h32,if_neg hq])
      have hnl: ¬(s[k].toNat:Int)<32:=by rw[←hc];exact h32
      have HCC:=Lib.hid hc
      rw[hc]at n1 n2
      have hby:Bytes [(s[k].toNat:Int)]:=by have:=HBY.out;rw[HE.out,hc]at this;exact this
      have HBB:=Lib.hid hby
      clear hq hc h32 c0 c1 hby
      go_wp2_with(first|(go_at_call 83;(with_reducible refine HFU.out.mono ?_);rintro e w' ⟨rfl,rfl⟩)|(at_builtin;refine wpList_append_own _ rfl _ _ 80 rfl (wb+1) 5 i0 (.int .u8 0) 1 1 Tryz.underlying80 hi hz0 hz1 hz2 rfl (by decide) v1 n _ rfl (HOW.out.alloc _) ⟨wr.heap.size,0,none⟩ 1 1 [.int .u8 (s[k].toNat:Int)] rfl rfl ?z1 ?z2 ?z3 ?z4 ?z5 ?_))
      case z1=>exact cell_one_new _ _ _
      case z2=>first|rfl|(intro u hu;rw[List.mem_singleton.1 hu];rfl)
      case z3=>unfold maxLen;omega
      case z4=>omega
      case z5=>first|omega|(simp;omega)
      intro v2 w2 hown' hgrow _
      have hgA:=World.grownBy_alloc wr (.cells #[.int .u8 (s[k].toNat:Int)] 5) none
      have hown2:w2.ownsRow (wb+1) 5 1 v2 (AC.length+([(s[k].toNat:Int)]:List Int).length) (ints .u8 AC++ints .u8 [(s[k].toNat:Int)]):=by rw[←HN.out];exact hown'
      have hM:=(HI.out.moved hgA).more hgrow hown2 (HBB.out)
      have hb2:Blk w2 wb 118 [v1]:=(HI.out.moved hgA).blk.grown hgrow (fun e=>by have:=(HI.out.own.lt _ e.symm).1;omega)
      have HM:=Lib.hid (And.intro hM.1 ((KeepJ.grownN hgA).trans hM.2))
      have d0:=hb2.cell 0
      have f0:=hb2.frozen 0
      obtain⟨A2,c2,hv2⟩:=zdj hown2
      rw[hv2]at HM⊢
      clear hown' hgrow hgA hown2 hM hb2 hv2 p0
      go_wp2
      go_roundw
      case rel=>exact⟨k+1,by omega,by go_num,⟨_,by rw[HNX.out,HE.out,HCC.out];exact HM.out.1⟩,HKJ.out.trans HM.out.2⟩
      case measure=>simp[intOf];omega
  ·obtain rfl:k=s.size:=by omega
   have hkI: ¬(s.size:Int)<(s.size:Int):=by omega
   go_wp2_with(first|(go_at_call 83;(with_reducible refine HFU.out.mono ?_);rintro e w' ⟨rfl,rfl⟩)|(go_at_call 115;(with_reducible refine HPE.out.mono ?_);rintro e w' ⟨rfl,hw,hk⟩;have HF:=Lib.hid (And.intro hw hk);clear hw hk))
   go_end0
   refine⟨AC++strL ⟨#[34]⟩,.inl ?_,rfl,HF.out.1,HKJ.out.trans HF.out.2⟩
   rw[HAC.out,zam,HLEN.out,List.append_assoc]
   rfl
end Go.Proofs.YtjfgmgkhinehaaaGreatDoor
