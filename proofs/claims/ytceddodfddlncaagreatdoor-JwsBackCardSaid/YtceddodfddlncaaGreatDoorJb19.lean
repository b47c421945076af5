
import Derived.Deep.CutBlock
import Derived.Deep.CutRange
import Derived.Test.YtceddodfddlncaaGreatDoorJb13
import Derived.Test.YtceddodfddlncaaGreatDoorJb17
set_option maxRecDepth 100000
set_option maxHeartbeats 16000000
set_option linter.all false
namespace Go.Proofs.YtceddodfddlncaaGreatDoor
open Go Go.RowKit
def utfS (s:ByteArray):Bool:=decide (badU (strL s)=(strL s).length)
theorem zmQ (s:ByteArray) (w:World) (hm:Marks w) (hs:s.size≤1000000000):
  Calls Tryz.prog 171 #[.string s] w fun e w'=>e= .returned (.bool (utfS s))∧Below w.heap.size w w':=by
 have HM:=Lib.hid hm
 have hconv:=fun(W:World)=>Lib.run_convert_string_bytes (P:=Tryz.prog) W 9 46 5 s Tryz.underlying9 Tryz.underlying46 Tryz.underlying5
 have HCK:=Lib.hid (fun c:Nat=>check_any _ (strL s) s.size c _ (hm.below (zgd w 5 s)) (zaQ s) (by omega) (zaz s) (liesBytes w 5 s))
 have HBB:=Lib.hid (zgd w 5 s)
 clear hm
 by_cases hu:badU (strL s)=(strL s).length
 ·have HR:Hid (utfS s=true):=Lib.hid (decide_eq_true hu)
  have HCK2:=Lib.hid (fun c=>((HCK.out c).mono (R':=fun e w'=>e= .returned .nilIface∧Below w.heap.size w w') fun e w' ht=>by
   rcases ht with⟨_,h1,h2⟩|⟨h1,_⟩
   ·exact⟨h1,HBB.out.trans (h2.mono HBB.out.size)⟩
   ·exact absurd hu h1))
  clear hu HCK
  go_enter Tryz.func171,Tryz.ntmps171
  go_wp2_with(go_at_call 197;refine(HCK2.out _).mono ?_;rintro e w1 ⟨rfl,hb⟩;have HF:=Lib.hid hb;clear hb)
  go_ret
  rw[HR.out];exact⟨rfl,HF.out⟩
 ·have HR:Hid (utfS s=false):=Lib.hid (decide_eq_false hu)
  have HCK2:=Lib.hid (fun c=>((HCK.out c).mono (R':=fun e w'=> ∃b,e= .returned (.iface 188 (.pointer (some ⟨b,0,none⟩)))∧Below w.heap.size w w') fun e w' ht=>by
   rcases ht with⟨h1,_⟩|⟨_,b,h1,_,_,_,h2⟩
   ·exact absurd h1 hu
   ·exact⟨b,h1,HBB.out.trans (h2.mono HBB.out.size)⟩))
  clear hu HCK
  go_enter Tryz.func171,Tryz.ntmps171
  go_wp2_with(go_at_call 197;refine(HCK2.out _).mono ?_;rintro e w1 ⟨b,rfl,hb⟩;have HF:=Lib.hid hb;clear hb)
  go_ret
  rw[HR.out];exact⟨rfl,HF.out⟩
def zch (kind n:Int) (s:ByteArray) (p q:Nat):Bool:=
 (decide (kind=1)||decide (kind=2)||decide (n=0))&&(decide (kind=3)||decide (s=⟨#[]⟩))&&(decide (kind=5)||decide (kind=4)||decide (p=0))&&(decide (kind=5)||decide (q=0))
theorem zaj (kind n:Int) (s:ByteArray) (p q:Nat):zch kind n s p q=((decide (kind=1)||decide (kind=2)||decide (n=0))&&(decide (kind=3)||decide (s=⟨#[]⟩))&&(decide (kind=5)||decide (kind=4)||decide (p=0))&&(decide (kind=5)||decide (q=0))):=rfl
theorem zgx {a:ByteArray} (he:a≠⟨#[]⟩):(a.toList==[])=false∧ ¬a.toList=[]∧0<a.size:=by
 have hpos:0<a.size:=Nat.pos_of_ne_zero fun h0=>he (by
  cases a with|mk d=>cases d with|mk l=>cases l with|nil=>rfl|cons x r=>simp[ByteArray.size]at h0)
 have h2: ¬a.toList=[]:=fun h=>by
  have:=ziw hpos
  rw[h]at this;cases this
 exact⟨by rw[beq_eq_false_iff_ne];exact h2,h2,hpos⟩
theorem zab {B:Nat} {w w':World} (h:Below B w w') (g o:Nat) (v:Value) (hg:B≤g):Below B w (w'.setCell ⟨g,o,none⟩ v):=h.setCell (p:=⟨g,o,none⟩) hg _
theorem clean_any (kind n:Int) (s:ByteArray) (p q c d:Nat) (A K:Option Addr) (W:World):
  Calls Tryz.prog 170 #[.agg #[.int .i64 kind,.int .i64 n,.string s,.slice A p c,.slice K q d]] W fun e w'=>e= .returned (.bool (zch kind n s p q))∧Below W.heap.size W w':=by
 have HB:Hid (∀cs:Array Value,Below W.heap.size W (W.alloc (.cells cs 63))):=Lib.hid fun cs=>(Below.refl _ _).alloc (Nat.le_refl _) _
 obtain⟨R,hR⟩: ∃R,R=zch kind n s p q:=⟨_,rfl⟩
 have HRR:=Lib.hid hR
 rw[←hR]
 clear hR
 by_cases h1:kind=1
 ·subst h1
  by_cases hs:s=⟨#[]⟩
  ·subst hs;have es:((⟨#[]⟩:ByteArray).toList==[])=true:=by rw[ByteArray.toList_eq];rfl
   by_cases hp:p=0
   ·have ep:((p:Int)==0)=true:=by rw[beq_iff_eq];omega
    by_cases hq:q=0
    ·have eq':((q:Int)==0)=true:=by rw[beq_iff_eq];omega
     have HR:Hid (R=true):=Lib.hid (by rw[HRR.out,zaj];simp[hp,hq])
     go_enter Tryz.func170,Tryz.ntmps170
     go_wp2
     go_ret
     rw[HR.out]
     exact⟨rfl,by first|exact HB.out _|exact zab (HB.out _) _ _ _ (Nat.le_refl _)|exact zab (zab (HB.out _) _ _ _ (Nat.le_refl _)) _ _ _ (Nat.le_refl _)⟩
    ·have eq':((q:Int)==0)=false:=by rw[beq_eq_false_iff_ne];omega
     have HR:Hid (R=false):=Lib.hid (by rw[HRR.out,zaj];simp[hp,hq])
     go_enter Tryz.func170,Tryz.ntmps170
     go_wp2
     go_ret
     rw[HR.out]
     exact⟨rfl,by first|exact HB.out _|exact zab (HB.out _) _ _ _ (Nat.le_refl _)|exact zab (zab (HB.out _) _ _ _ (Nat.le_refl _)) _ _ _ (Nat.le_refl _)⟩
   ·have ep:((p:Int)==0)=false:=by rw[beq_eq_false_iff_ne];omega
    have HR:Hid (R=false):=Lib.hid (by rw[HRR.out,zaj];simp[hp])
    go_enter Tryz.func170,Tryz.ntmps170
    go_wp2
    go_ret
    rw[HR.out]
    exact⟨rfl,by first|exact HB.out _|exact zab (HB.out _) _ _ _ (Nat.le_refl _)|exact zab (zab (HB.out _) _ _ _ (Nat.le_refl _)) _ _ _ (Nat.le_refl _)⟩
  ·obtain⟨es,es2,es3⟩:=zgx hs
   have HR:Hid (R=false):=Lib.hid (by rw[HRR.out,zaj];simp[hs])
   go_enter Tryz.func170,Tryz.ntmps170
   go_wp2
   go_ret
   rw[HR.out]
   exact⟨rfl,by first|exact HB.out _|exact zab (HB.out _) _ _ _ (Nat.le_refl _)|exact zab (zab (HB.out _) _ _ _ (Nat.le_refl _)) _ _ _ (Nat.le_refl _)⟩
 ·have g1:(kind==1)=false:=by rw[beq_eq_false_iff_ne];exact h1
  by_cases h2:kind=2
  ·subst h2
   by_cases hs:s=⟨#[]⟩
   ·subst hs;have es:((⟨#[]⟩:ByteArray).toList==[])=true:=by rw[ByteArray.toList_eq];rfl
    by_cases hp:p=0
    ·have ep:((p:Int)==0)=true:=by rw[beq_iff_eq];omega
     by_cases hq:q=0
     ·have eq':((q:Int)==0)=true:=by rw[beq_iff_eq];omega
      have HR:Hid (R=true):=Lib.hid (by rw[HRR.out,zaj];simp[hp,hq])
      go_enter Tryz.func170,Tryz.ntmps170
      go_wp2
      go_ret
      rw[HR.out]
      exact⟨rfl,by first|exact HB.out _|exact zab (HB.out _) _ _ _ (Nat.le_refl _)|exact zab (zab (HB.out _) _ _ _ (Nat.le_refl _)) _ _ _ (Nat.le_refl _)⟩
     ·have eq':((q:Int)==0)=false:=by rw[beq_eq_false_iff_ne];omega
      have HR:Hid (R=false):=Lib.hid (by rw[HRR.out,zaj];simp[hp,hq])
      go_enter Tryz.func170,Tryz.ntmps170
      go_wp2
      go_ret
      rw[HR.out]
      exact⟨rfl,by first|exact HB.out _|exact zab (HB.out _) _ _ _ (Nat.le_refl _)|exact zab (zab (HB.out _) _ _ _ (Nat.le_refl _)) _ _ _ (Nat.le_refl _)⟩
    ·have ep:((p:Int)==0)=false:=by rw[beq_eq_false_iff_ne];omega
     have HR:Hid (R=false):=Lib.hid (by rw[HRR.out,zaj];simp[hp])
     go_enter Tryz.func170,Tryz.ntmps170
     go_wp2
     go_ret
     rw[HR.out]
     exact⟨rfl,by first|exact HB.out _|exact zab (HB.out _) _ _ _ (Nat.le_refl _)|exact zab (zab (HB.out _) _ _ _ (Nat.le_refl _)) _ _ _ (Nat.le_refl _)⟩
   ·obtain⟨es,es2,es3⟩:=zgx hs
    have HR:Hid (R=false):=Lib.hid (by rw[HRR.out,zaj];simp[hs])
    go_enter Tryz.func170,Tryz.ntmps170
    go_wp2
    go_ret
    rw[HR.out]
    exact⟨rfl,by first|exact HB.out _|exact zab (HB.out _) _ _ _ (Nat.le_refl _)|exact zab (zab (HB.out _) _ _ _ (Nat.le_refl _)) _ _ _ (Nat.le_refl _)⟩
  ·have g2:(kind==2)=false:=by rw[beq_eq_false_iff_ne];exact h2
   by_cases h3:kind=3
   ·subst h3
    by_cases hn:n=0
    ·subst hn;have en:((0:Int)==0)=true:=rfl
     by_cases hp:p=0
     ·have ep:((p:Int)==0)=true:=by rw[beq_iff_eq];omega
      by_cases hq:q=0
      ·have eq':((q:Int)==0)=true:=by rw[beq_iff_eq];omega
       have HR:Hid (R=true):=Lib.hid (by rw[HRR.out,zaj];simp[hp,hq])
       go_enter Tryz.func170,Tryz.ntmps170
       go_wp2
       go_ret
       rw[HR.out]
       exact⟨rfl,by first|exact HB.out _|exact zab (HB.out _) _ _ _ (Nat.le_refl _)|exact zab (zab (HB.out _) _ _ _ (Nat.le_refl _)) _ _ _ (Nat.le_refl _)⟩
      ·have eq':((q:Int)==0)=false:=by rw[beq_eq_false_iff_ne];omega
       have HR:Hid (R=false):=Lib.hid (by rw[HRR.out,zaj];simp[hp,hq])
       go_enter Tryz.func170,Tryz.ntmps170
       go_wp2
       go_ret
       rw[HR.out]
       exact⟨rfl,by first|exact HB.out _|exact zab (HB.out _) _ _ _ (Nat.le_refl _)|exact zab (zab (HB.out _) _ _ _ (Nat.le_refl _)) _ _ _ (Nat.le_refl _)⟩
     ·have ep:((p:Int)==0)=false:=by rw[beq_eq_false_iff_ne];omega
      have HR:Hid (R=false):=Lib.hid (by rw[HRR.out,zaj];simp[hp])
      go_enter Tryz.func170,Tryz.ntmps170
      go_wp2
      go_ret
      rw[HR.out]
      exact⟨rfl,by first|exact HB.out _|exact zab (HB.out _) _ _ _ (Nat.le_refl _)|exact zab (zab (HB.out _) _ _ _ (Nat.le_refl _)) _ _ _ (Nat.le_refl _)⟩
    ·have en:(n==0)=false:=by rw[beq_eq_false_iff_ne];exact hn
     have HR:Hid (R=false):=Lib.hid (by rw[HRR.out,zaj];simp[hn])
     go_enter Tryz.func170,Tryz.ntmps170
     go_wp2
     go_ret
     rw[HR.out]
     exact⟨rfl,by first|exact HB.out _|exact zab (HB.out _) _ _ _ (Nat.le_refl _)|exact zab (zab (HB.out _) _ _ _ (Nat.le_refl _)) _ _ _ (Nat.le_refl _)⟩
   ·have g3:(kind==3)=false:=by rw[beq_eq_false_iff_ne];exact h3
    by_cases h5:kind=5
    ·subst h5
     by_cases hn:n=0
     ·subst hn;have en:((0:Int)==0)=true:=rfl
      by_cases hs:s=⟨#[]⟩
      ·subst hs;have es:((⟨#[]⟩:ByteArray).toList==[])=true:=by rw[ByteArray.toList_eq];rfl
       have HR:Hid (R=true):=Lib.hid (by rw[HRR.out,zaj];simp[])
       go_enter Tryz.func170,Tryz.ntmps170
       go_wp2
       go_ret
       rw[HR.out]
       exact⟨rfl,by first|exact HB.out _|exact zab (HB.out _) _ _ _ (Nat.le_refl _)|exact zab (zab (HB.out _) _ _ _ (Nat.le_refl _)) _ _ _ (Nat.le_refl _)⟩
      ·obtain⟨es,es2,es3⟩:=zgx hs
       have HR:Hid (R=false):=Lib.hid (by rw[HRR.out,zaj];simp[hs])
       go_enter Tryz.func170,Tryz.ntmps170
       go_wp2
       go_ret
       rw[HR.out]
       exact⟨rfl,by first|exact HB.out _|exact zab (HB.out _) _ _ _ (Nat.le_refl _)|exact zab (zab (HB.out _) _ _ _ (Nat.le_refl _)) _ _ _ (Nat.le_refl _)⟩
     ·have en:(n==0)=false:=by rw[beq_eq_false_iff_ne];exact hn
      have HR:Hid (R=false):=Lib.hid (by rw[HRR.out,zaj];simp[hn])
      go_enter Tryz.func170,Tryz.ntmps170
      go_wp2
      go_ret
      rw[HR.out]
      exact⟨rfl,by first|exact HB.out _|exact zab (HB.out _) _ _ _ (Nat.le_refl _)|exact zab (zab (HB.out _) _ _ _ (Nat.le_refl _)) _ _ _ (Nat.le_refl _)⟩
    ·have g5:(kind==5)=false:=by rw[beq_eq_false_iff_ne];exact h5
     by_cases h4:kind=4
     ·subst h4
      by_cases hn:n=0
      ·subst hn;have en:((0:Int)==0)=true:=rfl
       by_cases hs:s=⟨#[]⟩
       ·subst hs;have es:((⟨#[]⟩:ByteArray).toList==[])=true:=by rw[ByteArray.toList_eq];rfl
        by_cases hq:q=0
        ·have eq':((q:Int)==0)=true:=by rw[beq_iff_eq];omega
         have HR:Hid (R=true):=Lib.hid (by rw[HRR.out,zaj];simp[hq])
         go_enter Tryz.func170,Tryz.ntmps170
         go_wp2
         go_ret
         rw[HR.out]
         exact⟨rfl,by first|exact HB.out _|exact zab (HB.out _) _ _ _ (Nat.le_refl _)|exact zab (zab (HB.out _) _ _ _ (Nat.le_refl _)) _ _ _ (Nat.le_refl _)⟩
        ·have eq':((q:Int)==0)=false:=by rw[beq_eq_false_iff_ne];omega
         have HR:Hid (R=false):=Lib.hid (by rw[HRR.out,zaj];simp[hq])
         go_enter Tryz.func170,Tryz.ntmps170
         go_wp2
         go_ret
         rw[HR.out]
         exact⟨rfl,by first|exact HB.out _|exact zab (HB.out _) _ _ _ (Nat.le_refl _)|exact zab (zab (HB.out _) _ _ _ (Nat.le_refl _)) _ _ _ (Nat.le_refl _)⟩
       ·obtain⟨es,es2,es3⟩:=zgx hs
        have HR:Hid (R=false):=Lib.hid (by rw[HRR.out,zaj];simp[hs])
        go_enter Tryz.func170,Tryz.ntmps170
        go_wp2
        go_ret
        rw[HR.out]
        exact⟨rfl,by first|exact HB.out _|exact zab (HB.out _) _ _ _ (Nat.le_refl _)|exact zab (zab (HB.out _) _ _ _ (Nat.le_refl _)) _ _ _ (Nat.le_refl _)⟩
      ·have en:(n==0)=false:=by rw[beq_eq_false_iff_ne];exact hn
       have HR:Hid (R=false):=Lib.hid (by rw[HRR.out,zaj];simp[hn])
       go_enter Tryz.func170,Tryz.ntmps170
       go_wp2
       go_ret
       rw[HR.out]
       exact⟨rfl,by first|exact HB.out _|exact zab (HB.out _) _ _ _ (Nat.le_refl _)|exact zab (zab (HB.out _) _ _ _ (Nat.le_refl _)) _ _ _ (Nat.le_refl _)⟩
     ·have g4:(kind==4)=false:=by rw[beq_eq_false_iff_ne];exact h4
      by_cases hn:n=0
      ·subst hn;have en:((0:Int)==0)=true:=rfl
       by_cases hs:s=⟨#[]⟩
       ·subst hs;have es:((⟨#[]⟩:ByteArray).toList==[])=true:=by rw[ByteArray.toList_eq];rfl
        by_cases hp:p=0
        ·have ep:((p:Int)==0)=true:=by rw[beq_iff_eq];omega
         by_cases hq:q=0
         ·have eq':((q:Int)==0)=true:=by rw[beq_iff_eq];omega
          have HR:Hid (R=true):=Lib.hid (by rw[HRR.out,zaj];simp[h1,h2,h3,h5,h4,hp,hq])
          go_enter Tryz.func170,Tryz.ntmps170
          go_wp2
          go_ret
          rw[HR.out]
          exact⟨rfl,by first|exact HB.out _|exact zab (HB.out _) _ _ _ (Nat.le_refl _)|exact zab (zab (HB.out _) _ _ _ (Nat.le_refl _)) _ _ _ (Nat.le_refl _)⟩
         ·have eq':((q:Int)==0)=false:=by rw[beq_eq_false_iff_ne];omega
          have HR:Hid (R=false):=Lib.hid (by rw[HRR.out,zaj];simp[h1,h2,h3,h5,h4,hp,hq])
          go_enter Tryz.func170,Tryz.ntmps170
          go_wp2
          go_ret
          rw[HR.out]
          exact⟨rfl,by first|exact HB.out _|exact zab (HB.out _) _ _ _ (Nat.le_refl _)|exact zab (zab (HB.out _) _ _ _ (Nat.le_refl _)) _ _ _ (Nat.le_refl _)⟩
        ·have ep:((p:Int)==0)=false:=by rw[beq_eq_false_iff_ne];omega
         have HR:Hid (R=false):=Lib.hid (by rw[HRR.out,zaj];simp[h1,h2,h3,h5,h4,hp])
         go_enter Tryz.func170,Tryz.ntmps170
         go_wp2
         go_ret
         rw[HR.out]
         exact⟨rfl,by first|exact HB.out _|exact zab (HB.out _) _ _ _ (Nat.le_refl _)|exact zab (zab (HB.out _) _ _ _ (Nat.le_refl _)) _ _ _ (Nat.le_refl _)⟩
       ·obtain⟨es,es2,es3⟩:=zgx hs
        have HR:Hid (R=false):=Lib.hid (by rw[HRR.out,zaj];simp[h1,h2,h3,h5,h4,hs])
        go_enter Tryz.func170,Tryz.ntmps170
        go_wp2
        go_ret
        rw[HR.out]
        exact⟨rfl,by first|exact HB.out _|exact zab (HB.out _) _ _ _ (Nat.le_refl _)|exact zab (zab (HB.out _) _ _ _ (Nat.le_refl _)) _ _ _ (Nat.le_refl _)⟩
      ·have en:(n==0)=false:=by rw[beq_eq_false_iff_ne];exact hn
       have HR:Hid (R=false):=Lib.hid (by rw[HRR.out,zaj];simp[h1,h2,h3,h5,h4,hn])
       go_enter Tryz.func170,Tryz.ntmps170
       go_wp2
       go_ret
       rw[HR.out]
       exact⟨rfl,by first|exact HB.out _|exact zab (HB.out _) _ _ _ (Nat.le_refl _)|exact zab (zab (HB.out _) _ _ _ (Nat.le_refl _)) _ _ _ (Nat.le_refl _)⟩
def rnL:Option ByteArray→List ByteArray→Bool
 |_,[]=>true
 |p,t::r=>utfS t&&(match p with|none=>true|some q=>Op.bytesLess q.toList t.toList)&&rnL (some t) r
theorem zdm (p:Option ByteArray) (t:ByteArray) (r:List ByteArray):rnL p (t::r)=(utfS t&&(match p with|none=>true|some q=>Op.bytesLess q.toList t.toList)&&rnL (some t) r):=by cases p<;>rfl
theorem rnL_nil (p:Option ByteArray):rnL p []=true:=by cases p<;>rfl
def zdz (kind n:Int) (s:ByteArray):Bool:=
 if kind=0 then true else if kind=1 then decide (n=0)||decide (n=1)else if kind=2 then decide (-9007199254740991≤n)&&decide (n≤9007199254740991)else if kind=3 then utfS s else false
mutual
def rgt:J→Int→Int→Bool×Int
 | .mk kind n s l k,d,left=>
  if left-1<0∨zch kind n s l.length k.length=false then(false,left-1)
  else if kind=5∧(k.length≠l.length∨rnL none k=false)then(false,left-1)
  else if kind=4∨kind=5 then(if d≤8 then zcf l (d+1) (left-1)else(false,left-1))
  else(zdz kind n s,left-1)
def zcf:List J→Int→Int→Bool×Int
 |[],_,left=>(true,left)
 |x::r,d,left=>if(rgt x d left).1=true then zcf r d (rgt x d left).2 else(false,(rgt x d left).2)
end
inductive Mild:J→Prop
 |mk (kind n:Int) (s:ByteArray) (l:List J) (k:List ByteArray):s.size≤1000000000→(∀t∈k,t.size≤1000000000)→(∀x∈l,Mild x)→Mild (.mk kind n s l k)
def RPost (W0:World) (cb:Nat) (r:Bool×Int) (e:Ending) (w':World):Prop:=
 e= .returned (.bool r.1)∧Below W0.heap.size W0 w'∧(r.1=true→Blk w' cb 209 [.int .i64 (256-r.2)]∧0≤r.2∧r.2≤256)
def RAsk (j:J):Prop:= ∀(d left:Int) (W0 w:World) (v:Value) (cb:Nat),RepJ W0 j v→Below W0.heap.size W0 w→W0.heap.size≤cb→Blk w cb 209 [.int .i64 (256-left)]→0≤left→left≤256→1≤d→d≤9→Marks W0→
 Calls Tryz.prog 145 #[.pointer (some ⟨cb,0,none⟩),v,.int .i64 d] w (RPost W0 cb (rgt j d left))
theorem zkr (ks:List ByteArray) (hsz: ∀t∈ks,t.size≤1000000000) (v:Value) (w:World) (h:RepK w ks v) (hm:Marks w):
  Calls Tryz.prog 172 #[v] w fun e w'=>e= .returned (.bool (rnL none ks))∧Below w.heap.size w w':=by
 obtain⟨K,c,rfl,hl,hc⟩:=h.open
 have HC:=Lib.hid hc
 have HSZ:=Lib.hid hsz
 have HM:=Lib.hid hm
 obtain⟨n,hn⟩: ∃n,n=ks.length:=⟨_,rfl⟩
 rw[←hn]at hl⊢
 have HN:=Lib.hid hn
 clear h hc hsz hm hn
 go_enter Tryz.func172,Tryz.ntmps172
 go_wp2
 go_loopw[7] (fun v wr=> ∃k:Nat,k≤n∧v= .int .i64 (k:Int)∧rnL none ks=rnL (if k=0 then none else ks[k-1]?) (ks.drop k)∧Below w.heap.size w wr) (fun v _=>n-(intOf v).toNat)
 case atStart=>exact⟨0,Nat.zero_le _,rfl,rfl,Below.refl _ _⟩
 case round=>
  obtain⟨k,hk,rfl,hrun,hbel⟩:=hrel
  have HRUN:=Lib.hid hrun
  have HBE:=Lib.hid hbel
  clear hrun
  by_cases hlt:k<n
  ·have hkl:k<ks.length:=by rw[←HN.out];exact hlt
   obtain⟨b,o,rfl,hb,_,hcell⟩:=HC.out k hkl
   have q0:=(hbel.cell (p:=⟨b,o+k,none⟩) hb).trans hcell
   have hdr:ks.drop k=ks[k]::ks.drop (k+1):=List.drop_eq_getElem_cons hkl
   have hUT:=zmQ ks[k] wr (HM.out.below hbel) (HSZ.out _ (List.getElem_mem hkl))
   have hnx:(if k+1=0 then none else ks[k+1-1]?)=some ks[k]:=by rw[if_neg (by omega),Nat.add_sub_cancel];exact List.getElem?_eq_getElem hkl
   have hi0:(0:Int)≤(k:Int):=by omega
   have hi1:(k:Int)<(n:Int):=by omega
   have hprev:0<k→ ∃p,ks[k-1]? =some p∧ ∀W',Below w.heap.size w W'→W'.cell? ⟨b,o+(k-1),none⟩=some (.string p):=fun h0=>by
    obtain⟨b',o',e',hb',_,hcell'⟩:=HC.out (k-1) (by omega)
    injection e' with e'
    injection e' with e1 e2
    subst e1;subst e2
    exact⟨_,List.getElem?_eq_getElem (by omega),fun W' hW=>(hW.cell (p:=⟨b,o+(k-1),none⟩) hb').trans hcell'⟩
   obtain⟨t,ht⟩: ∃t,t=ks[k]:=⟨_,rfl⟩
   rw[←ht]at q0 hdr hUT hnx
   have HRN:=Lib.hid hnx
   have HD:=Lib.hid hdr
   clear hcell hdr hnx ht
   cases hu:utfS t with
   |false=>
    have HR:Hid (rnL none ks=false):=Lib.hid (by rw[HRUN.out,HD.out,zdm,hu];simp)
    rw[hu]at hUT
    have HUT:=Lib.hid hUT
    clear hu hUT hprev
    go_wp2_with(go_at_call 171;(with_reducible refine HUT.out.mono ?_);rintro e w1 ⟨rfl,hb1⟩;have HB1:=Lib.hid (HBE.out.trans (hb1.mono HBE.out.size));clear hb1)
    go_ret
    rw[HR.out];exact⟨rfl,HB1.out⟩
   |true=>
    rw[hu]at hUT
    have HUT:=Lib.hid hUT
    by_cases hk0:k=0
    ·have HR:Hid (rnL none ks=rnL (if k+1=0 then none else ks[k+1-1]?) (ks.drop (k+1))):=Lib.hid (by rw[HRUN.out,HD.out,zdm,hu,HRN.out,if_pos hk0];simp)
     have hgz: ¬(0:Int)<(k:Int):=by omega
     clear hu hUT hprev hk0
     go_wp2_with(go_at_call 171;(with_reducible refine HUT.out.mono ?_);rintro e w1 ⟨rfl,hb1⟩;have HB1:=Lib.hid (HBE.out.trans (hb1.mono HBE.out.size));clear hb1)
     go_roundw
     case rel=>exact⟨k+1,by omega,by go_num,HR.out,HB1.out⟩
     case measure=>simp[intOf];omega
    ·obtain⟨p,hp,hpc⟩:=hprev (by omega)
     have HPC:=Lib.hid hpc
     have hgz:(0:Int)<(k:Int):=by omega
     have wk:IntKind.i64.wrap ((k:Int)-1)=((k-1:Nat):Int):=by rw[IntKind.wrap_i64];omega
     have hk1:(0:Int)≤((k-1:Nat):Int):=by omega
     have hk2:((k-1:Nat):Int)<(n:Int):=by omega
     cases hl2:Op.bytesLess p.toList t.toList with
     |true=>
      have HR:Hid (rnL none ks=rnL (if k+1=0 then none else ks[k+1-1]?) (ks.drop (k+1))):=Lib.hid (by rw[HRUN.out,HD.out,zdm,hu,HRN.out,if_neg hk0,hp];simp[hl2])
      clear hu hUT hp hpc
      go_wp2_with(go_at_call 171;(with_reducible refine HUT.out.mono ?_);rintro e w1 ⟨rfl,hb1⟩;have HB1:=Lib.hid (HBE.out.trans (hb1.mono HBE.out.size));have q1:=HPC.out _ HB1.out;clear hb1)
      go_roundw
      case rel=>exact⟨k+1,by omega,by go_num,HR.out,HB1.out⟩
      case measure=>simp[intOf];omega
     |false=>
      have HR:Hid (rnL none ks=false):=Lib.hid (by rw[HRUN.out,HD.out,zdm,hu,if_neg hk0,hp];simp[hl2])
      clear hu hUT hp hpc
      go_wp2_with(go_at_call 171;(with_reducible refine HUT.out.mono ?_);rintro e w1 ⟨rfl,hb1⟩;have HB1:=Lib.hid (HBE.out.trans (hb1.mono HBE.out.size));have q1:=HPC.out _ HB1.out;clear hb1)
      go_ret
      rw[HR.out];exact⟨rfl,HB1.out⟩
  ·obtain rfl:k=n:=by omega
   have HR:Hid (rnL none ks=true):=Lib.hid (by rw[HRUN.out,List.drop_of_length_le (by rw[←HN.out];exact Nat.le_refl _)];simp[rnL])
   have hi1: ¬(k:Int)<(k:Int):=by omega
   clear hlt hbel
   go_wp2
   go_ret
   rw[HR.out]
   exact⟨rfl,HBE.out⟩
theorem zif (l:List J) (ih: ∀x∈l,RAsk x) (d left:Int) (W0 w:World) (A:Option Addr) (c cb:Nat) (hc:l≠[]→ ∃b o,A=some ⟨b,o,none⟩∧b<W0.heap.size∧RepC W0 b o l) (hl:l.length≤9223372036854775807) (hb:Below W0.heap.size W0 w) (hcb:W0.heap.size≤cb) (hcc:Blk w cb 209 [.int .i64 (256-left)])
  (h0:0≤left) (h1:left≤256) (d1:1≤d) (d9:d≤9) (hm:Marks W0):
  Calls Tryz.prog 173 #[.pointer (some ⟨cb,0,none⟩),.slice A l.length c,.int .i64 d] w (RPost W0 cb (zcf l d left)):=by
 have HC:=Lib.hid hc
 have HIH:=Lib.hid ih
 have HM:=Lib.hid hm
 have HB:=Lib.hid hb
 have HCC:=Lib.hid hcc
 obtain⟨n,hn⟩: ∃n,n=l.length:=⟨_,rfl⟩
 rw[←hn]at hl⊢
 have HN:=Lib.hid hn
 clear hc ih hm hb hcc hn
 go_enter Tryz.func173,Tryz.ntmps173
 go_wp2
 go_loopw[11] (fun v wr=> ∃(k:Nat) (lf:Int),k≤n∧v= .int .i64 (k:Int)∧zcf l d left=zcf (l.drop k) d lf∧0≤lf∧lf≤256∧Blk wr cb 209 [.int .i64 (256-lf)]∧Below W0.heap.size W0 wr) (fun v _=>n-(intOf v).toNat)
 case atStart=>exact⟨0,left,Nat.zero_le _,rfl,rfl,h0,h1,HCC.out,HB.out⟩
 case round=>
  obtain⟨k,lf,hk,rfl,hrun,l0,l1,hblk,hbel⟩:=hrel
  have HRUN:=Lib.hid hrun
  have HBE:=Lib.hid hbel
  have HBK:=Lib.hid hblk
  clear hrun hblk
  by_cases hlt:k<n
  ·have hkl:k<l.length:=by rw[←HN.out];exact hlt
   obtain⟨g,o,rfl,hg,hrep⟩:=HC.out (fun e=>by rw[e]at hkl;exact absurd hkl (Nat.not_lt_zero _))
   obtain⟨v1,hr1,hf1⟩:=hrep.at k hkl
   have hdr:l.drop k=l[k]::l.drop (k+1):=List.drop_eq_getElem_cons hkl
   have HRA:=Lib.hid (HIH.out l[k] (List.getElem_mem hkl))
   obtain⟨A1,x3,c1,K1,x4,e1,rfl,z0,z1,z2,z3,z4⟩:=hr1.cells hf1
   have z0':=(hbel.cell (p:=⟨g,o+k*5,none⟩) hg).trans z0
   have z1':=(hbel.cell (p:=⟨g,o+k*5+1,none⟩) hg).trans z1
   have z2':=(hbel.cell (p:=⟨g,o+k*5+2,none⟩) hg).trans z2
   have z3':=(hbel.cell (p:=⟨g,o+k*5+3,none⟩) hg).trans z3
   have z4':=(hbel.cell (p:=⟨g,o+k*5+4,none⟩) hg).trans z4
   obtain⟨X,hX⟩: ∃X,X=l[k]:=⟨_,rfl⟩
   rw[←hX]at hdr HRA hr1 z0' z1' z2'
   obtain⟨x0,hx0⟩: ∃x,x=X.kind:=⟨_,rfl⟩
   obtain⟨x1,hx1⟩: ∃x,x=X.n:=⟨_,rfl⟩
   obtain⟨x2,hx2⟩: ∃x,x=X.s:=⟨_,rfl⟩
   rw[←hx0,←hx1,←hx2]at hr1
   rw[←hx0]at z0'
   rw[←hx1]at z1'
   rw[←hx2]at z2'
   have HCALL:=Lib.hid (HRA.out d lf W0 (wr.alloc (.cells #[.int .i64 x0,.int .i64 x1,.string x2,.slice A1 x3 c1,.slice K1 x4 e1] 63)) _ cb hr1 (hbel.alloc hbel.size _) hcb (HBK.out.grownN (World.grownBy_alloc _ _ none)) l0 l1 d1 d9 HM.out)
   have HST:Hid (zcf l d left=if(rgt X d lf).1=true then zcf (l.drop (k+1)) d (rgt X d lf).2 else(false,(rgt X d lf).2)):=Lib.hid (by rw[HRUN.out,hdr,zcf])
   obtain⟨r,hr⟩: ∃r,r=rgt X d lf:=⟨_,rfl⟩
   rw[←hr]at HCALL HST
   have hi0:(0:Int)≤(k:Int):=by omega
   have hi1:(k:Int)<(n:Int):=by omega
   clear hrep hr1 hf1 z0 z1 z2 z3 z4 hx0 hx1 hx2 hX hdr hr hbel HRA
   obtain⟨ok,lf2⟩:=r
   cases ok with
   |true=>
    have HR:Hid (zcf l d left=zcf (l.drop (k+1)) d lf2):=Lib.hid (HST.out.trans (if_pos rfl))
    go_wp2_with(go_at_call 145;(with_reducible refine HCALL.out.mono ?_);rintro e w1 ⟨rfl,hb1,hq1⟩;have HB1:=Lib.hid hb1;have HQ1:=Lib.hid (hq1 rfl);clear hb1 hq1)
    go_roundw
    case rel=>exact⟨k+1,lf2,by omega,by go_num,HR.out,HQ1.out.2.1,HQ1.out.2.2,HQ1.out.1,HB1.out⟩
    case measure=>simp[intOf];omega
   |false=>
    have HR:Hid (zcf l d left=(false,lf2)):=Lib.hid (HST.out.trans (if_neg (by simp)))
    go_wp2_with(go_at_call 145;(with_reducible refine HCALL.out.mono ?_);rintro e w1 ⟨rfl,hb1,hq1⟩;have HB1:=Lib.hid hb1;clear hb1 hq1)
    go_ret
    rw[HR.out];exact⟨rfl,HB1.out,fun h=>by cases h⟩
  ·obtain rfl:k=n:=by omega
   have HR:Hid (zcf l d left=(true,lf)):=Lib.hid (by rw[HRUN.out,List.drop_of_length_le (by rw[←HN.out];exact Nat.le_refl _),zcf])
   have hi1: ¬(k:Int)<(k:Int):=by omega
   clear hlt hbel
   go_wp2
   go_ret
   rw[HR.out]
   exact⟨rfl,HBE.out,fun _=>⟨HBK.out,l0,l1⟩⟩
theorem zhy (w:World) (cs:List Value) (t:TypeId):Blk (w.alloc (.cells cs.toArray t)) w.heap.size t cs:=heap_alloc_new w _
theorem right_of (kind n:Int) (s:ByteArray) (l:List J) (k:List ByteArray) (hs:s.size≤1000000000) (hk: ∀t∈k,t.size≤1000000000) (ih: ∀x∈l,RAsk x):RAsk (.mk kind n s l k):=fun d left W0 w v cb hj hb hcb hcc h0 h1 d1 d9 hm=>by
 obtain⟨vk,A,c,rfl,_,hkk,hl,hc⟩:=hj.open
 obtain⟨K,dd,rfl,hkl,_⟩:=hkk.open
 have HKK:=Lib.hid hkk
 have HC:=Lib.hid hc
 have HIH:=Lib.hid ih
 have HM:=Lib.hid hm
 obtain⟨r,hr⟩: ∃r,r=rgt (.mk kind n s l k) d left:=⟨_,rfl⟩
 have hrg:=hr
 rw[rgt]at hrg
 rw[←hr]
 obtain⟨p,hp⟩: ∃p,p=l.length:=⟨_,rfl⟩
 obtain⟨q,hq⟩: ∃q,q=k.length:=⟨_,rfl⟩
 obtain⟨x,hx⟩: ∃x,x=256-left:=⟨_,rfl⟩
 change Calls _ _ #[_,.agg #[.int .i64 kind,.int .i64 n,.string s,.slice A l.length c,.slice K k.length dd],_] _ _
 have HCLN:=Lib.hid (fun W:World=>clean_any kind n s p q c dd A K W)
 rw[←hp,←hq]at hrg⊢
 rw[←hx]at hcc
 obtain⟨CL,hCL⟩: ∃b,b=zch kind n s p q:=⟨_,rfl⟩
 rw[←hCL]at hrg HCLN
 have HRG:=Lib.hid hrg
 have HP:=Lib.hid hp
 have HQ:=Lib.hid hq
 obtain⟨w1,hw1⟩: ∃z,z=w.alloc (.cells #[.int .i64 kind,.int .i64 n,.string s,.slice A p c,.slice K q dd] 63):=⟨_,rfl⟩
 have hgA:w.grownBy w1 none:=by rw[hw1];exact World.grownBy_alloc _ _ none
 have hX1:Blk w1 w.heap.size 63 [.int .i64 kind,.int .i64 n,.string s,.slice A p c,.slice K q dd]:=by rw[hw1];exact zhy w _ _
 have hK1:=hcc.grownN hgA
 have hcl:=hcc.lt
 obtain⟨B,hBB⟩: ∃z,z=w.heap.size:=⟨_,rfl⟩
 have hne:cb≠B:=by omega
 have hK2:Blk (w1.setCell ⟨cb,0,none⟩ (.int .i64 (x+1))) cb 209 [.int .i64 (x+1)]:=hK1.setCell 0 _
 have hX2:Blk (w1.setCell ⟨cb,0,none⟩ (.int .i64 (x+1))) B 63 [.int .i64 kind,.int .i64 n,.string s,.slice A p c,.slice K q dd]:=by rw[hBB];exact hX1.grown (zaV _ _ _ _) (by rw[←hBB];intro e;injection e with e;exact hne e.symm)
 have hB1:Below W0.heap.size W0 w1:=hb.grown hgA hb.size (fun k hk=>by cases hk)
 have hB2:Below W0.heap.size W0 (w1.setCell ⟨cb,0,none⟩ (.int .i64 (x+1))):=hB1.setCell (p:=⟨cb,0,none⟩) hcb _
 have e1:w1.cell? ⟨cb,0,none⟩=some (.int .i64 x):=hK1.cell 0
 have e2:w1.frozen? ⟨cb,0,none⟩=false:=hK1.frozen 0
 have HW1:=Lib.hid hw1
 have HK2:=Lib.hid hK2
 have HX2:=Lib.hid hX2
 have HB2:=Lib.hid hB2
 have HBB:=Lib.hid hBB
 have wx:IntKind.i64.wrap (x+1)=x+1:=by rw[IntKind.wrap_i64];omega
 rw[hw1]at e1 e2
 have hxa:x≤256-left:=by omega
 have hxb:256-left≤x:=by omega
 clear hx hj hb hcc hm hkk hc ih hr hrg hp hq hCL hgA hX1 hK1 hcl hne hK2 hX2 hB1 hB2 hw1 hBB
 go_enter Tryz.func145,Tryz.ntmps145
 go_upto_region 2 with fail
 rw[show w.alloc (.cells #[.int .i64 kind,.int .i64 n,.string s,.slice A p c,.slice K q dd] 63)=w1 from HW1.out.symm]
 obtain⟨w2,hw2⟩: ∃z,z=w1.setCell ⟨cb,0,none⟩ (.int .i64 (x+1)):=⟨_,rfl⟩
 rw[←hw2]at HK2 HX2 HB2⊢
 rw[show w.heap.size=B from HBB.out.symm]
 have a0:w2.cell? ⟨cb,0,none⟩=some (.int .i64 (x+1)):=HK2.out.cell 0
 obtain⟨c0,c1,c2,c3,c4⟩:w2.cell? ⟨B,0,none⟩=some (.int .i64 kind)∧w2.cell? ⟨B,1,none⟩=some (.int .i64 n)∧w2.cell? ⟨B,2,none⟩=some (.string s)∧w2.cell? ⟨B,3,none⟩=some (.slice A p c)∧w2.cell? ⟨B,4,none⟩=some (.slice K q dd):=⟨HX2.out.cell 0,HX2.out.cell 1,HX2.out.cell 2,HX2.out.cell 3,HX2.out.cell 4⟩
 clear e1 e2 hw2
 by_cases hA:left-1<0
 ·have gA:(256:Int)<x+1:=by omega
  have HR:Hid (r=(false,left-1)):=Lib.hid (by rw[HRG.out,if_pos (.inl hA)])
  go_wp2
  go_ret
  rw[HR.out]
  exact⟨rfl,HB2.out,fun h=>by cases h⟩
 have gA: ¬(256:Int)<x+1:=by omega
 cases CL with
 |false=>
  have HR:Hid (r=(false,left-1)):=Lib.hid (by rw[HRG.out,if_pos (.inr rfl)])
  go_wp2_with(first|(go_at_call 170;(with_reducible refine(HCLN.out _).mono ?_);rintro e w3 ⟨rfl,hb3⟩;have HB3:=Lib.hid (HB2.out.trans (hb3.mono HB2.out.size));have HK3:=Lib.hid (Blk.below HK2.out hb3 HK2.out.lt);have HX3:=Lib.hid (Blk.below HX2.out hb3 HX2.out.lt);have b0:w3.cell? ⟨B,0,none⟩=some _:=HX3.out.cell 0;have b1:w3.cell? ⟨B,1,none⟩=some _:=HX3.out.cell 1;have b2:w3.cell? ⟨B,2,none⟩=some _:=HX3.out.cell 2;have b3:w3.cell? ⟨B,3,none⟩=some _:=HX3.out.cell 3;have b4:w3.cell? ⟨B,4,none⟩=some _:=HX3.out.cell 4;clear hb3))
  go_ret
  rw[HR.out]
  exact⟨rfl,HB3.out,fun h=>by cases h⟩
 |true=>
  have HRG:=Lib.hid (HRG.out.trans (if_neg (by intro h;rcases h with h|h;exact hA h;cases h)))
  by_cases h0:kind=0
  ·subst h0
   have HR:Hid (r=(true,left-1)):=Lib.hid (by rw[HRG.out,if_neg (by rintro⟨h,_⟩;omega),if_neg (by omega)];simp[zdz])
   go_wp2_with(first|(go_at_call 170;(with_reducible refine(HCLN.out _).mono ?_);rintro e w3 ⟨rfl,hb3⟩;have HB3:=Lib.hid (HB2.out.trans (hb3.mono HB2.out.size));have HK3:=Lib.hid (Blk.below HK2.out hb3 HK2.out.lt);have HX3:=Lib.hid (Blk.below HX2.out hb3 HX2.out.lt);have b0:w3.cell? ⟨B,0,none⟩=some _:=HX3.out.cell 0;have b1:w3.cell? ⟨B,1,none⟩=some _:=HX3.out.cell 1;have b2:w3.cell? ⟨B,2,none⟩=some _:=HX3.out.cell 2;have b3:w3.cell? ⟨B,3,none⟩=some _:=HX3.out.cell 3;have b4:w3.cell? ⟨B,4,none⟩=some _:=HX3.out.cell 4;clear hb3))
   go_ret
   rw[HR.out]
   exact⟨rfl,HB3.out,fun _=>⟨by rw[show(256:Int)-(left-1)=x+1 by omega];exact HK3.out,by omega,by omega⟩⟩
  have g0:(kind==0)=false:=by rw[beq_eq_false_iff_ne];exact h0
  by_cases h1:kind=1
  ·subst h1
   by_cases hn0:n=0
   ·subst hn0
    have HR:Hid (r=(true,left-1)):=Lib.hid (by rw[HRG.out,if_neg (by rintro⟨h,_⟩;omega),if_neg (by omega)];simp[zdz])
    go_wp2_with(first|(go_at_call 170;(with_reducible refine(HCLN.out _).mono ?_);rintro e w3 ⟨rfl,hb3⟩;have HB3:=Lib.hid (HB2.out.trans (hb3.mono HB2.out.size));have HK3:=Lib.hid (Blk.below HK2.out hb3 HK2.out.lt);have HX3:=Lib.hid (Blk.below HX2.out hb3 HX2.out.lt);have b0:w3.cell? ⟨B,0,none⟩=some _:=HX3.out.cell 0;have b1:w3.cell? ⟨B,1,none⟩=some _:=HX3.out.cell 1;have b2:w3.cell? ⟨B,2,none⟩=some _:=HX3.out.cell 2;have b3:w3.cell? ⟨B,3,none⟩=some _:=HX3.out.cell 3;have b4:w3.cell? ⟨B,4,none⟩=some _:=HX3.out.cell 4;clear hb3))
    go_ret
    rw[HR.out]
    exact⟨rfl,HB3.out,fun _=>⟨by rw[show(256:Int)-(left-1)=x+1 by omega];exact HK3.out,by omega,by omega⟩⟩
   have gn0:(n==0)=false:=by rw[beq_eq_false_iff_ne];exact hn0
   by_cases hn1:n=1
   ·subst hn1
    have HR:Hid (r=(true,left-1)):=Lib.hid (by rw[HRG.out,if_neg (by rintro⟨h,_⟩;omega),if_neg (by omega)];simp[zdz])
    go_wp2_with(first|(go_at_call 170;(with_reducible refine(HCLN.out _).mono ?_);rintro e w3 ⟨rfl,hb3⟩;have HB3:=Lib.hid (HB2.out.trans (hb3.mono HB2.out.size));have HK3:=Lib.hid (Blk.below HK2.out hb3 HK2.out.lt);have HX3:=Lib.hid (Blk.below HX2.out hb3 HX2.out.lt);have b0:w3.cell? ⟨B,0,none⟩=some _:=HX3.out.cell 0;have b1:w3.cell? ⟨B,1,none⟩=some _:=HX3.out.cell 1;have b2:w3.cell? ⟨B,2,none⟩=some _:=HX3.out.cell 2;have b3:w3.cell? ⟨B,3,none⟩=some _:=HX3.out.cell 3;have b4:w3.cell? ⟨B,4,none⟩=some _:=HX3.out.cell 4;clear hb3))
    go_ret
    rw[HR.out]
    exact⟨rfl,HB3.out,fun _=>⟨by rw[show(256:Int)-(left-1)=x+1 by omega];exact HK3.out,by omega,by omega⟩⟩
   have gn1:(n==1)=false:=by rw[beq_eq_false_iff_ne];exact hn1
   have HR:Hid (r=(false,left-1)):=Lib.hid (by rw[HRG.out,if_neg (by rintro⟨h,_⟩;omega),if_neg (by omega)];simp[zdz,hn0,hn1])
   go_wp2_with(first|(go_at_call 170;(with_reducible refine(HCLN.out _).mono ?_);rintro e w3 ⟨rfl,hb3⟩;have HB3:=Lib.hid (HB2.out.trans (hb3.mono HB2.out.size));have HK3:=Lib.hid (Blk.below HK2.out hb3 HK2.out.lt);have HX3:=Lib.hid (Blk.below HX2.out hb3 HX2.out.lt);have b0:w3.cell? ⟨B,0,none⟩=some _:=HX3.out.cell 0;have b1:w3.cell? ⟨B,1,none⟩=some _:=HX3.out.cell 1;have b2:w3.cell? ⟨B,2,none⟩=some _:=HX3.out.cell 2;have b3:w3.cell? ⟨B,3,none⟩=some _:=HX3.out.cell 3;have b4:w3.cell? ⟨B,4,none⟩=some _:=HX3.out.cell 4;clear hb3))
   go_ret
   rw[HR.out]
   exact⟨rfl,HB3.out,fun _=>⟨by rw[show(256:Int)-(left-1)=x+1 by omega];exact HK3.out,by omega,by omega⟩⟩
  have g1:(kind==1)=false:=by rw[beq_eq_false_iff_ne];exact h1
  by_cases h2:kind=2
  ·subst h2
   by_cases hn0: -9007199254740991≤n
   ·have dn0:decide (-9007199254740991≤n)=true:=decide_eq_true hn0
    by_cases hn1:n≤9007199254740991
    ·have dn1:decide (n≤9007199254740991)=true:=decide_eq_true hn1
     have HR:Hid (r=(true,left-1)):=Lib.hid (by rw[HRG.out,if_neg (by rintro⟨h,_⟩;omega),if_neg (by omega)];simp[zdz,hn0,hn1])
     go_wp2_with(first|(go_at_call 170;(with_reducible refine(HCLN.out _).mono ?_);rintro e w3 ⟨rfl,hb3⟩;have HB3:=Lib.hid (HB2.out.trans (hb3.mono HB2.out.size));have HK3:=Lib.hid (Blk.below HK2.out hb3 HK2.out.lt);have HX3:=Lib.hid (Blk.below HX2.out hb3 HX2.out.lt);have b0:w3.cell? ⟨B,0,none⟩=some _:=HX3.out.cell 0;have b1:w3.cell? ⟨B,1,none⟩=some _:=HX3.out.cell 1;have b2:w3.cell? ⟨B,2,none⟩=some _:=HX3.out.cell 2;have b3:w3.cell? ⟨B,3,none⟩=some _:=HX3.out.cell 3;have b4:w3.cell? ⟨B,4,none⟩=some _:=HX3.out.cell 4;clear hb3))
     go_ret
     rw[HR.out]
     exact⟨rfl,HB3.out,fun _=>⟨by rw[show(256:Int)-(left-1)=x+1 by omega];exact HK3.out,by omega,by omega⟩⟩
    ·have dn1:decide (n≤9007199254740991)=false:=decide_eq_false hn1
     have HR:Hid (r=(false,left-1)):=Lib.hid (by rw[HRG.out,if_neg (by rintro⟨h,_⟩;omega),if_neg (by omega)];simp[zdz,hn0,hn1])
     go_wp2_with(first|(go_at_call 170;(with_reducible refine(HCLN.out _).mono ?_);rintro e w3 ⟨rfl,hb3⟩;have HB3:=Lib.hid (HB2.out.trans (hb3.mono HB2.out.size));have HK3:=Lib.hid (Blk.below HK2.out hb3 HK2.out.lt);have HX3:=Lib.hid (Blk.below HX2.out hb3 HX2.out.lt);have b0:w3.cell? ⟨B,0,none⟩=some _:=HX3.out.cell 0;have b1:w3.cell? ⟨B,1,none⟩=some _:=HX3.out.cell 1;have b2:w3.cell? ⟨B,2,none⟩=some _:=HX3.out.cell 2;have b3:w3.cell? ⟨B,3,none⟩=some _:=HX3.out.cell 3;have b4:w3.cell? ⟨B,4,none⟩=some _:=HX3.out.cell 4;clear hb3))
     go_ret
     rw[HR.out]
     exact⟨rfl,HB3.out,fun _=>⟨by rw[show(256:Int)-(left-1)=x+1 by omega];exact HK3.out,by omega,by omega⟩⟩
   ·have dn0:decide (-9007199254740991≤n)=false:=decide_eq_false hn0
    have HR:Hid (r=(false,left-1)):=Lib.hid (by rw[HRG.out,if_neg (by rintro⟨h,_⟩;omega),if_neg (by omega)];simp[zdz,hn0])
    go_wp2_with(first|(go_at_call 170;(with_reducible refine(HCLN.out _).mono ?_);rintro e w3 ⟨rfl,hb3⟩;have HB3:=Lib.hid (HB2.out.trans (hb3.mono HB2.out.size));have HK3:=Lib.hid (Blk.below HK2.out hb3 HK2.out.lt);have HX3:=Lib.hid (Blk.below HX2.out hb3 HX2.out.lt);have b0:w3.cell? ⟨B,0,none⟩=some _:=HX3.out.cell 0;have b1:w3.cell? ⟨B,1,none⟩=some _:=HX3.out.cell 1;have b2:w3.cell? ⟨B,2,none⟩=some _:=HX3.out.cell 2;have b3:w3.cell? ⟨B,3,none⟩=some _:=HX3.out.cell 3;have b4:w3.cell? ⟨B,4,none⟩=some _:=HX3.out.cell 4;clear hb3))
    go_ret
    rw[HR.out]
    exact⟨rfl,HB3.out,fun _=>⟨by rw[show(256:Int)-(left-1)=x+1 by omega];exact HK3.out,by omega,by omega⟩⟩
  have g2:(kind==2)=false:=by rw[beq_eq_false_iff_ne];exact h2
  by_cases h3:kind=3
  ·subst h3
   obtain⟨u,hu⟩: ∃u,u=utfS s:=⟨_,rfl⟩
   have HU:=Lib.hid (fun(W':World) (hW:Below W0.heap.size W0 W')=>zmQ s W' (HM.out.below hW) hs)
   rw[←hu]at HU
   have HUU:=Lib.hid hu
   clear hu
   have HR:Hid (r=(u,left-1)):=Lib.hid (by rw[HRG.out,if_neg (by rintro⟨h,_⟩;omega),if_neg (by omega)];simp[zdz,HUU.out])
   go_wp2_with(first|(go_at_call 170;(with_reducible refine(HCLN.out _).mono ?_);rintro e w3 ⟨rfl,hb3⟩;have HB3:=Lib.hid (HB2.out.trans (hb3.mono HB2.out.size));have HK3:=Lib.hid (Blk.below HK2.out hb3 HK2.out.lt);have HX3:=Lib.hid (Blk.below HX2.out hb3 HX2.out.lt);have b0:w3.cell? ⟨B,0,none⟩=some _:=HX3.out.cell 0;have b1:w3.cell? ⟨B,1,none⟩=some _:=HX3.out.cell 1;have b2:w3.cell? ⟨B,2,none⟩=some _:=HX3.out.cell 2;have b3:w3.cell? ⟨B,3,none⟩=some _:=HX3.out.cell 3;have b4:w3.cell? ⟨B,4,none⟩=some _:=HX3.out.cell 4;clear hb3)|(go_at_call 171;(with_reducible refine(HU.out _ HB3.out).mono ?_);rintro e w4 ⟨rfl,hb4⟩;have HB4:=Lib.hid (HB3.out.trans (hb4.mono HB3.out.size));have HK4:=Lib.hid (Blk.below HK3.out hb4 HK3.out.lt);clear hb4))
   go_ret
   rw[HR.out]
   exact⟨rfl,HB4.out,fun _=>⟨by rw[show(256:Int)-(left-1)=x+1 by omega];exact HK4.out,by omega,by omega⟩⟩
  have g3:(kind==3)=false:=by rw[beq_eq_false_iff_ne];exact h3
  by_cases h5:kind=5
  ·subst h5
   by_cases hqp:q=p
   ·have hqz:((q:Int)!=(p:Int))=false:=by rw[hqp];simp
    have HRN:=Lib.hid (fun(W':World) (hW:Below W0.heap.size W0 W')=>zkr k hk (.slice K k.length dd) W' (HKK.out.below hW) (HM.out.below hW))
    rw[←HQ.out]at HRN
    obtain⟨u,hu⟩: ∃u,u=rnL none k:=⟨_,rfl⟩
    rw[←hu]at HRN HRG
    clear hu
    have HQP:=Lib.hid hqp
    clear hqp
    cases u with
    |false=>
     have HR:Hid (r=(false,left-1)):=Lib.hid (by rw[HRG.out,if_pos ⟨rfl,.inr rfl⟩])
     go_wp2_with(first|(go_at_call 170;(with_reducible refine(HCLN.out _).mono ?_);rintro e w3 ⟨rfl,hb3⟩;have HB3:=Lib.hid (HB2.out.trans (hb3.mono HB2.out.size));have HK3:=Lib.hid (Blk.below HK2.out hb3 HK2.out.lt);have HX3:=Lib.hid (Blk.below HX2.out hb3 HX2.out.lt);have b0:w3.cell? ⟨B,0,none⟩=some _:=HX3.out.cell 0;have b1:w3.cell? ⟨B,1,none⟩=some _:=HX3.out.cell 1;have b2:w3.cell? ⟨B,2,none⟩=some _:=HX3.out.cell 2;have b3:w3.cell? ⟨B,3,none⟩=some _:=HX3.out.cell 3;have b4:w3.cell? ⟨B,4,none⟩=some _:=HX3.out.cell 4;clear hb3)|(go_at_call 172;(with_reducible refine(HRN.out _ HB3.out).mono ?_);rintro e w4 ⟨rfl,hb4⟩;have HB4:=Lib.hid (HB3.out.trans (hb4.mono HB3.out.size));have HK4:=Lib.hid (Blk.below HK3.out hb4 HK3.out.lt);have HX4:=Lib.hid (Blk.below HX3.out hb4 HX3.out.lt);have q3:w4.cell? ⟨B,3,none⟩=some (.slice A p c):=HX4.out.cell 3;clear hb4))
     go_ret
     rw[HR.out]
     exact⟨rfl,HB4.out,fun h=>by cases h⟩
    |true=>
     by_cases hd:d≤8
     ·have HR:Hid (r=zcf l (d+1) (left-1)):=Lib.hid (by rw[HRG.out,if_neg (by rintro⟨_,h|h⟩;exact h HQP.out;cases h),if_pos (by omega),if_pos hd])
      have HAR:=Lib.hid (fun(W':World) (hW:Below W0.heap.size W0 W') (hC:Blk W' cb 209 [.int .i64 (x+1)])=>zif l HIH.out (d+1) (left-1) W0 W' A c cb HC.out hl hW hcb (by rw[show(256:Int)-(left-1)=x+1 by omega];exact hC) (by omega) (by omega) (by omega) (by omega) HM.out)
      rw[←HP.out]at HAR
      obtain⟨r',hr'⟩: ∃r',r'=zcf l (d+1) (left-1):=⟨_,rfl⟩
      rw[←hr']at HR HAR
      obtain⟨ok,lf⟩:=r'
      have wd:IntKind.i64.wrap (d+1)=d+1:=by rw[IntKind.wrap_i64];omega
      clear hr'
      go_wp2_with(first|(go_at_call 170;(with_reducible refine(HCLN.out _).mono ?_);rintro e w3 ⟨rfl,hb3⟩;have HB3:=Lib.hid (HB2.out.trans (hb3.mono HB2.out.size));have HK3:=Lib.hid (Blk.below HK2.out hb3 HK2.out.lt);have HX3:=Lib.hid (Blk.below HX2.out hb3 HX2.out.lt);have b0:w3.cell? ⟨B,0,none⟩=some _:=HX3.out.cell 0;have b1:w3.cell? ⟨B,1,none⟩=some _:=HX3.out.cell 1;have b2:w3.cell? ⟨B,2,none⟩=some _:=HX3.out.cell 2;have b3:w3.cell? ⟨B,3,none⟩=some _:=HX3.out.cell 3;have b4:w3.cell? ⟨B,4,none⟩=some _:=HX3.out.cell 4;clear hb3)|(go_at_call 172;(with_reducible refine(HRN.out _ HB3.out).mono ?_);rintro e w4 ⟨rfl,hb4⟩;have HB4:=Lib.hid (HB3.out.trans (hb4.mono HB3.out.size));have HK4:=Lib.hid (Blk.below HK3.out hb4 HK3.out.lt);have HX4:=Lib.hid (Blk.below HX3.out hb4 HX3.out.lt);have q3:w4.cell? ⟨B,3,none⟩=some (.slice A p c):=HX4.out.cell 3;clear hb4)|(go_at_call 173;(with_reducible refine(HAR.out _ HB4.out HK4.out).mono ?_);rintro e w5 ⟨rfl,hb5,hq5⟩;have HB5:=Lib.hid hb5;have HQ5:=Lib.hid hq5;clear hb5 hq5))
      go_ret
      rw[HR.out]
      exact⟨rfl,HB5.out,HQ5.out⟩
     ·have HR:Hid (r=(false,left-1)):=Lib.hid (by rw[HRG.out,if_neg (by rintro⟨_,h|h⟩;exact h HQP.out;cases h),if_pos (by omega),if_neg hd])
      go_wp2_with(first|(go_at_call 170;(with_reducible refine(HCLN.out _).mono ?_);rintro e w3 ⟨rfl,hb3⟩;have HB3:=Lib.hid (HB2.out.trans (hb3.mono HB2.out.size));have HK3:=Lib.hid (Blk.below HK2.out hb3 HK2.out.lt);have HX3:=Lib.hid (Blk.below HX2.out hb3 HX2.out.lt);have b0:w3.cell? ⟨B,0,none⟩=some _:=HX3.out.cell 0;have b1:w3.cell? ⟨B,1,none⟩=some _:=HX3.out.cell 1;have b2:w3.cell? ⟨B,2,none⟩=some _:=HX3.out.cell 2;have b3:w3.cell? ⟨B,3,none⟩=some _:=HX3.out.cell 3;have b4:w3.cell? ⟨B,4,none⟩=some _:=HX3.out.cell 4;clear hb3)|(go_at_call 172;(with_reducible refine(HRN.out _ HB3.out).mono ?_);rintro e w4 ⟨rfl,hb4⟩;have HB4:=Lib.hid (HB3.out.trans (hb4.mono HB3.out.size));have HK4:=Lib.hid (Blk.below HK3.out hb4 HK3.out.lt);have HX4:=Lib.hid (Blk.below HX3.out hb4 HX3.out.lt);have q3:w4.cell? ⟨B,3,none⟩=some (.slice A p c):=HX4.out.cell 3;clear hb4))
      go_ret
      rw[HR.out]
      exact⟨rfl,HB4.out,fun h=>by cases h⟩
   ·have hqz:((q:Int)!=(p:Int))=true:=by rw[bne_iff_ne];omega
    have hqe: ¬(q:Int)=(p:Int):=by omega
    have HR:Hid (r=(false,left-1)):=Lib.hid (by rw[HRG.out,if_pos ⟨rfl,.inl hqp⟩])
    go_wp2_with(first|(go_at_call 170;(with_reducible refine(HCLN.out _).mono ?_);rintro e w3 ⟨rfl,hb3⟩;have HB3:=Lib.hid (HB2.out.trans (hb3.mono HB2.out.size));have HK3:=Lib.hid (Blk.below HK2.out hb3 HK2.out.lt);have HX3:=Lib.hid (Blk.below HX2.out hb3 HX2.out.lt);have b0:w3.cell? ⟨B,0,none⟩=some _:=HX3.out.cell 0;have b1:w3.cell? ⟨B,1,none⟩=some _:=HX3.out.cell 1;have b2:w3.cell? ⟨B,2,none⟩=some _:=HX3.out.cell 2;have b3:w3.cell? ⟨B,3,none⟩=some _:=HX3.out.cell 3;have b4:w3.cell? ⟨B,4,none⟩=some _:=HX3.out.cell 4;clear hb3))
    go_ret
    rw[HR.out]
    exact⟨rfl,HB3.out,fun h=>by cases h⟩
  have g5:(kind==5)=false:=by rw[beq_eq_false_iff_ne];exact h5
  by_cases h4:kind=4
  ·subst h4
   by_cases hd:d≤8
   ·have HR:Hid (r=zcf l (d+1) (left-1)):=Lib.hid (by rw[HRG.out,if_neg (by rintro⟨h,_⟩;omega),if_pos (by omega),if_pos hd])
    have HAR:=Lib.hid (fun(W':World) (hW:Below W0.heap.size W0 W') (hC:Blk W' cb 209 [.int .i64 (x+1)])=>zif l HIH.out (d+1) (left-1) W0 W' A c cb HC.out hl hW hcb (by rw[show(256:Int)-(left-1)=x+1 by omega];exact hC) (by omega) (by omega) (by omega) (by omega) HM.out)
    rw[←HP.out]at HAR
    obtain⟨r',hr'⟩: ∃r',r'=zcf l (d+1) (left-1):=⟨_,rfl⟩
    rw[←hr']at HR HAR
    obtain⟨ok,lf⟩:=r'
    have wd:IntKind.i64.wrap (d+1)=d+1:=by rw[IntKind.wrap_i64];omega
    clear hr'
    go_wp2_with(first|(go_at_call 170;(with_reducible refine(HCLN.out _).mono ?_);rintro e w3 ⟨rfl,hb3⟩;have HB3:=Lib.hid (HB2.out.trans (hb3.mono HB2.out.size));have HK3:=Lib.hid (Blk.below HK2.out hb3 HK2.out.lt);have HX3:=Lib.hid (Blk.below HX2.out hb3 HX2.out.lt);have b0:w3.cell? ⟨B,0,none⟩=some _:=HX3.out.cell 0;have b1:w3.cell? ⟨B,1,none⟩=some _:=HX3.out.cell 1;have b2:w3.cell? ⟨B,2,none⟩=some _:=HX3.out.cell 2;have b3:w3.cell? ⟨B,3,none⟩=some _:=HX3.out.cell 3;have b4:w3.cell? ⟨B,4,none⟩=some _:=HX3.out.cell 4;clear hb3)|(go_at_call 173;(with_reducible refine(HAR.out _ HB3.out HK3.out).mono ?_);rintro e w5 ⟨rfl,hb5,hq5⟩;have HB5:=Lib.hid hb5;have HQ5:=Lib.hid hq5;clear hb5 hq5))
    go_ret
    rw[HR.out]
    exact⟨rfl,HB5.out,HQ5.out⟩
   ·have HR:Hid (r=(false,left-1)):=Lib.hid (by rw[HRG.out,if_neg (by rintro⟨h,_⟩;omega),if_pos (by omega),if_neg hd])
    go_wp2_with(first|(go_at_call 170;(with_reducible refine(HCLN.out _).mono ?_);rintro e w3 ⟨rfl,hb3⟩;have HB3:=Lib.hid (HB2.out.trans (hb3.mono HB2.out.size));have HK3:=Lib.hid (Blk.below HK2.out hb3 HK2.out.lt);have HX3:=Lib.hid (Blk.below HX2.out hb3 HX2.out.lt);have b0:w3.cell? ⟨B,0,none⟩=some _:=HX3.out.cell 0;have b1:w3.cell? ⟨B,1,none⟩=some _:=HX3.out.cell 1;have b2:w3.cell? ⟨B,2,none⟩=some _:=HX3.out.cell 2;have b3:w3.cell? ⟨B,3,none⟩=some _:=HX3.out.cell 3;have b4:w3.cell? ⟨B,4,none⟩=some _:=HX3.out.cell 4;clear hb3))
    go_ret
    rw[HR.out]
    exact⟨rfl,HB3.out,fun h=>by cases h⟩
  have g4:(kind==4)=false:=by rw[beq_eq_false_iff_ne];exact h4
  have HR:Hid (r=(false,left-1)):=Lib.hid (by rw[HRG.out,if_neg (by rintro⟨h,_⟩;omega),if_neg (by omega)];simp[zdz,h0,h1,h2,h3])
  go_wp2_with(first|(go_at_call 170;(with_reducible refine(HCLN.out _).mono ?_);rintro e w3 ⟨rfl,hb3⟩;have HB3:=Lib.hid (HB2.out.trans (hb3.mono HB2.out.size));have HK3:=Lib.hid (Blk.below HK2.out hb3 HK2.out.lt);have HX3:=Lib.hid (Blk.below HX2.out hb3 HX2.out.lt);have b0:w3.cell? ⟨B,0,none⟩=some _:=HX3.out.cell 0;have b1:w3.cell? ⟨B,1,none⟩=some _:=HX3.out.cell 1;have b2:w3.cell? ⟨B,2,none⟩=some _:=HX3.out.cell 2;have b3:w3.cell? ⟨B,3,none⟩=some _:=HX3.out.cell 3;have b4:w3.cell? ⟨B,4,none⟩=some _:=HX3.out.cell 4;clear hb3))
  go_ret
  rw[HR.out]
  exact⟨rfl,HB3.out,fun _=>⟨by rw[show(256:Int)-(left-1)=x+1 by omega];exact HK3.out,by omega,by omega⟩⟩
theorem right_any (j:J):Mild j→RAsk j:=by
 induction j using J.ind with
 |h kind n s l k ih=>
  intro h
  cases h with
  |mk _ _ _ _ _ h1 h2 h3=>exact right_of kind n s l k h1 h2 fun x hx=>ih x hx (h3 x hx)
end Go.Proofs.YtceddodfddlncaaGreatDoor
