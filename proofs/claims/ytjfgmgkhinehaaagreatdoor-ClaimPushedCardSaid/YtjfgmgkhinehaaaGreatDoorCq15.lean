
import Derived.Test.YtjfgmgkhinehaaaGreatDoorCq01
set_option maxRecDepth 100000
set_option maxHeartbeats 16000000
set_option linter.all false
namespace Go.Proofs.YtjfgmgkhinehaaaGreatDoor
open Go Go.RowKit
theorem zgr (s:ByteArray) (w:World):
  Calls Tryz.prog 60 #[.string s] w fun e w'=>e= .returned (.bool (zbh (strL s)))∧w=w':=by
 have HLEN:=Lib.hid (zaX s)
 by_cases h1:s.size<1
 ·have h1I:(s.size:Int)<1:=by omega
  have HR:Hid (zbh (strL s)=false):=Lib.hid (by unfold zbh;rw[decide_eq_false (by rw[zaX];omega),Bool.false_and])
  clear h1
  go_enter Tryz.func60,Tryz.ntmps60
  go_wp2
  go_ret
  exact⟨zax HR.out.symm,rfl⟩
 ·have h1I: ¬(s.size:Int)<1:=by omega
  by_cases h2:s.size≤32
  ·have h3: ¬(32:Int)<(s.size:Int):=by omega
   have HN:Hid (zbh (strL s)=(strL s).all okB):=Lib.hid (by
    unfold zbh
    rw[decide_eq_true (by rw[zaX];omega),Bool.true_and])
   rw[HN.out]
   go_enter Tryz.func60,Tryz.ntmps60
   go_wp2
   go_loop [3] (fun v=> ∃k:Nat,k≤s.size∧v= .int .i64 (k:Int)∧(strL s).all okB=((strL s).drop k).all okB) (fun v=>s.size-(intOf v).toNat)
   case atStart=>exact⟨0,Nat.zero_le _,rfl,rfl⟩
   case round=>
    obtain⟨k,hk,rfl,hrun⟩:=hrel
    have HRUN:=Lib.hid hrun
    clear hrun h1 h1I h3 HN
    by_cases hlt:k<s.size
    ·have hd:=zhv s k hlt
     have hi0:(0:Int)≤(k:Int):=by omega
     have hcb:=s[k].toNat_lt
     have HSTEP:Hid ((strL s).all okB=(okB (s[k].toNat:Int)&&((strL s).drop (k+1)).all okB)):=Lib.hid (by rw[HRUN.out,hd,List.all_cons])
     clear hd
     have key:(((97≤(s[k].toNat:Int)∧(s[k].toNat:Int)≤122)∨(48≤(s[k].toNat:Int)∧(s[k].toNat:Int)≤57)∨(s[k].toNat:Int)=46∨(s[k].toNat:Int)=58∨(s[k].toNat:Int)=95∨(s[k].toNat:Int)=45))∨((¬97≤(s[k].toNat:Int)∨ ¬(s[k].toNat:Int)≤122)∧(¬48≤(s[k].toNat:Int)∨ ¬(s[k].toNat:Int)≤57)∧(s[k].toNat:Int)≠46∧(s[k].toNat:Int)≠58∧(s[k].toNat:Int)≠95∧(s[k].toNat:Int)≠45):=by omega
     rcases key with hyes|⟨k1,k2,e1,e2,e3,e4⟩
     ·have HR:Hid ((strL s).all okB=((strL s).drop (k+1)).all okB):=Lib.hid (by rw[HSTEP.out];unfold okB;rw[decide_eq_true hyes,Bool.true_and])
      clear HSTEP
      rcases hyes with⟨a,b⟩|⟨a,b⟩|a|a|a|a
      ·go_wp2
       go_round
       case rel=>exact⟨k+1,by omega,by go_num,HR.out⟩
       case measure=>simp[intOf];omega
      ·have a1: ¬97≤(s[k].toNat:Int):=by omega
       go_wp2
       go_round
       case rel=>exact⟨k+1,by omega,by go_num,HR.out⟩
       case measure=>simp[intOf];omega
      ·have q:((s[k].toNat:Int)==46)=true:=by simp[a]
       have qn:((s[k].toNat:Int)!=46)=false:=by rw[bne,q];rfl
       have a1: ¬97≤(s[k].toNat:Int):=by omega
       have a2: ¬48≤(s[k].toNat:Int):=by omega
       clear a
       go_wp2
       go_round
       case rel=>exact⟨k+1,by omega,by go_num,HR.out⟩
       case measure=>simp[intOf];omega
      ·have q:((s[k].toNat:Int)==58)=true:=by simp[a]
       have qn:((s[k].toNat:Int)!=58)=false:=by rw[bne,q];rfl
       have q1:((s[k].toNat:Int)==46)=false:=by simp[a]
       have q1n:((s[k].toNat:Int)!=46)=true:=by rw[bne,q1];rfl
       have a1: ¬97≤(s[k].toNat:Int):=by omega
       have a2:48≤(s[k].toNat:Int):=by omega
       have a3: ¬(s[k].toNat:Int)≤57:=by omega
       clear a
       go_wp2
       go_round
       case rel=>exact⟨k+1,by omega,by go_num,HR.out⟩
       case measure=>simp[intOf];omega
      ·have q:((s[k].toNat:Int)==95)=true:=by simp[a]
       have qn:((s[k].toNat:Int)!=95)=false:=by rw[bne,q];rfl
       have q1:((s[k].toNat:Int)==46)=false:=by simp[a]
       have q1n:((s[k].toNat:Int)!=46)=true:=by rw[bne,q1];rfl
       have q2:((s[k].toNat:Int)==58)=false:=by simp[a]
       have q2n:((s[k].toNat:Int)!=58)=true:=by rw[bne,q2];rfl
       have a1: ¬97≤(s[k].toNat:Int):=by omega
       have a2:48≤(s[k].toNat:Int):=by omega
       have a3: ¬(s[k].toNat:Int)≤57:=by omega
       clear a
       go_wp2
       go_round
       case rel=>exact⟨k+1,by omega,by go_num,HR.out⟩
       case measure=>simp[intOf];omega
      ·have q:((s[k].toNat:Int)==45)=true:=by simp[a]
       have qn:((s[k].toNat:Int)!=45)=false:=by rw[bne,q];rfl
       have q1:((s[k].toNat:Int)==46)=false:=by simp[a]
       have q1n:((s[k].toNat:Int)!=46)=true:=by rw[bne,q1];rfl
       have q2:((s[k].toNat:Int)==58)=false:=by simp[a]
       have q2n:((s[k].toNat:Int)!=58)=true:=by rw[bne,q2];rfl
       have q3:((s[k].toNat:Int)==95)=false:=by simp[a]
       have q3n:((s[k].toNat:Int)!=95)=true:=by rw[bne,q3];rfl
       have a1: ¬97≤(s[k].toNat:Int):=by omega
       have a2: ¬48≤(s[k].toNat:Int):=by omega
       clear a
       go_wp2
       go_round
       case rel=>exact⟨k+1,by omega,by go_num,HR.out⟩
       case measure=>simp[intOf];omega
     ·have HR:Hid ((strL s).all okB=false):=Lib.hid (by
       rw[HSTEP.out];unfold okB;rw[decide_eq_false (by omega),Bool.false_and])
      have q1:((s[k].toNat:Int)==46)=false:=by simp[e1]
      have q1n:((s[k].toNat:Int)!=46)=true:=by rw[bne,q1];rfl
      have q2:((s[k].toNat:Int)==58)=false:=by simp[e2]
      have q2n:((s[k].toNat:Int)!=58)=true:=by rw[bne,q2];rfl
      have q3:((s[k].toNat:Int)==95)=false:=by simp[e3]
      have q3n:((s[k].toNat:Int)!=95)=true:=by rw[bne,q3];rfl
      have q4:((s[k].toNat:Int)==45)=false:=by simp[e4]
      have q4n:((s[k].toNat:Int)!=45)=true:=by rw[bne,q4];rfl
      clear HSTEP e1 e2 e3 e4
      rcases k1 with k1|k1
      ·rcases k2 with k2|k2
       ·go_wp2
        go_ret
        exact⟨zax HR.out.symm,rfl⟩
       ·have k3:48≤(s[k].toNat:Int):=by omega
        go_wp2
        go_ret
        exact⟨zax HR.out.symm,rfl⟩
      ·have k3:97≤(s[k].toNat:Int):=by omega
       have k4:48≤(s[k].toNat:Int):=by omega
       have k5: ¬(s[k].toNat:Int)≤57:=by omega
       clear k2
       go_wp2
       go_ret
       exact⟨zax HR.out.symm,rfl⟩
    ·obtain rfl:k=s.size:=by omega
     have HR:Hid ((strL s).all okB=true):=Lib.hid (by rw[HRUN.out,List.drop_of_length_le (by rw[HLEN.out];exact Nat.le_refl _)];rfl)
     clear hlt
     go_wp2
     go_ret
     exact⟨zax HR.out.symm,rfl⟩
  ·have h3:(32:Int)<(s.size:Int):=by omega
   have HR:Hid (zbh (strL s)=false):=Lib.hid (by unfold zbh;rw[decide_eq_false (by rw[zaX];omega),Bool.false_and])
   clear h1 h2
   go_enter Tryz.func60,Tryz.ntmps60
   go_wp2
   go_ret
   exact⟨zax HR.out.symm,rfl⟩
theorem zdr {a b:Bool} (h:a=b):Ending.returned (.bool a)= .returned (.bool b):=by rw[h]
def RawN (w:World) (v:Value) (ns:List ByteArray):Prop:= ∃A c,v= .slice A ns.length c∧ns.length≤c∧ns.length≤9223372036854775807∧LiesN w A ns
def zeg (ns:List ByteArray):Bool:=decide (100<ns.length)||ns.any fun x=>decide (1000<x.size)
theorem zlJ (v:Value) (ns:List ByteArray) (w:World) (h:RawN w v ns):
  Calls Tryz.prog 54 #[v] w fun e w'=>e= .returned (.bool (zeg ns))∧w=w':=by
 obtain⟨A,c,rfl,hc,h9,hl⟩:=h
 obtain⟨n,hnn⟩: ∃n,n=ns.length:=⟨_,rfl⟩
 obtain⟨R,hR⟩: ∃R,R=zeg ns:=⟨_,rfl⟩
 rw[←hR]
 rw[←hnn]at hc h9⊢
 have HN:=Lib.hid hnn
 have HL:=Lib.hid hl
 have HR:=Lib.hid hR
 clear hnn hl hR
 by_cases hg:100<n
 ·have hgI:(100:Int)<(n:Int):=by omega
  have HT:Hid (R=true):=Lib.hid (by rw[HR.out];unfold zeg;rw[←HN.out,decide_eq_true hg,Bool.true_or])
  go_enter Tryz.func54,Tryz.ntmps54
  go_wp2
  go_ret
  exact⟨zdr HT.out.symm,rfl⟩
 ·have hgI: ¬(100:Int)<(n:Int):=by omega
  have HR2:Hid (R=ns.any fun x=>decide (1000<x.size)):=Lib.hid (by rw[HR.out];unfold zeg;rw[←HN.out,decide_eq_false hg,Bool.false_or])
  have hg2:n≤100:=by omega
  clear hg HR
  go_enter Tryz.func54,Tryz.ntmps54
  go_wp2
  go_loop [3] (fun i=> ∃k:Nat,k≤n∧i= .int .i64 (k:Int)∧R=(ns.drop k).any fun x=>decide (1000<x.size)) (fun i=>n-(intOf i).toNat)
  case atStart=>exact⟨0,Nat.zero_le _,rfl,HR2.out⟩
  case round=>
   obtain⟨k,hk,rfl,hrun⟩:=hrel
   have HRUN:=Lib.hid hrun
   clear hrun
   by_cases hlt:k<n
   ·have hkl:k<ns.length:=by rw[←HN.out];exact hlt
    obtain⟨b,o,rfl,_,hcell⟩:=HL.out.at hkl
    have hi0:(0:Int)≤(k:Int):=by omega
    have HD:Hid (ns.drop k=ns[k]::ns.drop (k+1)):=Lib.hid (List.drop_eq_getElem_cons hkl)
    obtain⟨x,hx⟩: ∃x,x=ns[k]:=⟨_,rfl⟩
    rw[←hx]at hcell HD
    clear hx hkl
    by_cases hs:1000<x.size
    ·have hsI:(1000:Int)<(x.size:Int):=by omega
     have HT:Hid (R=true):=Lib.hid (by rw[HRUN.out,HD.out,List.any_cons,decide_eq_true hs,Bool.true_or])
     clear hs
     go_wp2
     go_ret
     exact⟨zdr HT.out.symm,rfl⟩
    ·have hsI: ¬(1000:Int)<(x.size:Int):=by omega
     have HT:Hid (R=(ns.drop (k+1)).any fun x=>decide (1000<x.size)):=Lib.hid (by rw[HRUN.out,HD.out,List.any_cons,decide_eq_false hs,Bool.false_or])
     clear hs
     go_wp2
     go_round
     case rel=>exact⟨k+1,by omega,by go_num,HT.out⟩
     case measure=>simp[intOf];omega
   ·obtain rfl:k=n:=by omega
    have HT:Hid (R=false):=Lib.hid (by rw[HRUN.out,HN.out,List.drop_length];rfl)
    clear hlt
    go_wp2
    go_ret
    exact⟨zdr HT.out.symm,rfl⟩
end Go.Proofs.YtjfgmgkhinehaaaGreatDoor
