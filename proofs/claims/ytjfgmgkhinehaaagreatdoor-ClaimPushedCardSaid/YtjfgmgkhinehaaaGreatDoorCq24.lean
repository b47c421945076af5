
import Derived.LaidEql
import Derived.Stop.Asserts
import Derived.RowKitTokens
import Derived.Maps.Range
import Derived.Shelf.SlicesQ.IndexFunc
import Derived.Shelf.SlSortCmp.InsertionK
import Derived.Test.YtjfgmgkhinehaaaGreatDoorCq17
set_option maxRecDepth 100000
set_option maxHeartbeats 16000000
set_option linter.all false
namespace Go.Proofs.YtjfgmgkhinehaaaGreatDoor
open Go Go.RowKit
theorem zfZ {s:ByteArray} (h:s.size=0):s=⟨#[]⟩:=by
 obtain⟨d⟩:=s
 have:d.size=0:=h
 rw[Array.eq_empty_of_size_eq_zero this]
theorem zco {s:ByteArray} (h:s.size≠0):(s.toList==(⟨#[]⟩:ByteArray).toList)=false:=by
 rw[show(⟨#[]⟩:ByteArray).toList=[]by rw[ByteArray.toList_eq],beq_eq_false_iff_ne,ByteArray.toList_eq]
 intro e
 apply h
 show s.data.size=0
 rw[←Array.length_toList,e];rfl
theorem zbx {s:ByteArray} (h:s.size≠0):s.toList.isEmpty=false:=by
 rw[List.isEmpty_eq_false_iff,ByteArray.toList_eq]
 intro e
 apply h
 show s.data.size=0
 rw[←Array.length_toList,e];rfl
theorem visible_any (s:ByteArray) (w:World):
  Calls Tryz.prog 56 #[.string s] w fun e w'=>e= .returned (.bool (visL (strL s)))∧w=w':=by
 have HLEN:=Lib.hid (zaX s)
 by_cases h1:s.size=0
 ·obtain rfl:=zfZ h1
  go_enter Tryz.func56,Tryz.ntmps56
  go_wp2
  go_ret
  exact⟨rfl,rfl⟩
 ·have hne2:=zco h1
  have hne3:=zbx h1
  by_cases h2:s.size≤64
  ·have h3: ¬(64:Int)<(s.size:Int):=by omega
   obtain⟨R,hR⟩: ∃R,R=visL (strL s):=⟨_,rfl⟩
   have HR0:Hid (R=(strL s).all (fun x=>decide (33≤x∧x≤126))):=Lib.hid (by
    rw[hR];unfold visL
    rw[decide_eq_true (by rw[zaX];omega),Bool.true_and])
   rw[←hR]
   clear hR
   go_enter Tryz.func56,Tryz.ntmps56
   go_wp2
   go_loop [13] (fun v=> ∃k:Nat,k≤s.size∧v= .int .i64 (k:Int)∧R=((strL s).drop k).all (fun x=>decide (33≤x∧x≤126))) (fun v=>s.size-(intOf v).toNat)
   case atStart=>exact⟨0,Nat.zero_le _,rfl,HR0.out⟩
   case round=>
    clear HR0
    obtain⟨k,hk,rfl,hrun⟩:=hrel
    have HRUN:=Lib.hid hrun
    clear hrun
    by_cases hlt:k<s.size
    ·have hd:=zhv s k hlt
     have hi0:(0:Int)≤(k:Int):=by omega
     have hcb:=s[k].toNat_lt
     obtain⟨c,hc⟩: ∃c,c=(s[k].toNat:Int):=⟨_,rfl⟩
     by_cases ha:(s[k].toNat:Int)<33
     ·have HR:Hid (R=false):=Lib.hid (by rw[HRUN.out,hd,List.all_cons,decide_eq_false (by omega),Bool.false_and])
      have ha2:decide ((s[k].toNat:Int)<33)=true:=decide_eq_true ha
      clear hd hc
      go_wp2
      go_ret
      exact⟨zax HR.out.symm,rfl⟩
     ·have ha2:decide ((s[k].toNat:Int)<33)=false:=decide_eq_false ha
      by_cases hb:(126:Int)<(s[k].toNat:Int)
      ·have HR:Hid (R=false):=Lib.hid (by rw[HRUN.out,hd,List.all_cons,decide_eq_false (by omega),Bool.false_and])
       have hb2:decide ((126:Int)<(s[k].toNat:Int))=true:=decide_eq_true hb
       clear hd hc
       go_wp2
       go_ret
       exact⟨zax HR.out.symm,rfl⟩
      ·have HR:Hid (R=((strL s).drop (k+1)).all (fun x=>decide (33≤x∧x≤126))):=Lib.hid (by rw[HRUN.out,hd,List.all_cons,decide_eq_true (by omega),Bool.true_and])
       have hb2:decide ((126:Int)<(s[k].toNat:Int))=false:=decide_eq_false hb
       clear hd hc
       go_wp2
       go_round
       case rel=>exact⟨k+1,by omega,by go_num,HR.out⟩
       case measure=>simp[intOf];omega
    ·obtain rfl:k=s.size:=by omega
     have HR:Hid (R=true):=Lib.hid (by rw[HRUN.out,List.drop_of_length_le (by rw[zaX];omega)];rfl)
     have hlt2: ¬(s.size:Int)<(s.size:Int):=by omega
     go_wp2
     go_ret
     exact⟨zax HR.out.symm,rfl⟩
  ·have h3:(64:Int)<(s.size:Int):=by omega
   have HR:Hid (visL (strL s)=false):=Lib.hid (by unfold visL;rw[decide_eq_false (by rw[zaX];omega),Bool.false_and])
   clear h2
   go_enter Tryz.func56,Tryz.ntmps56
   go_wp2
   go_ret
   exact⟨zax HR.out.symm,rfl⟩
def CkC (W:World) (ok:Bool) (e:Ending) (w':World):Prop:=e= .returned (errV (if ok=true then 0 else 90))∧Below W.heap.size W w'
theorem zdq (t:TokM) (A:Option Addr) (c:Nat) (W:World) (hs:SliceN W (.slice A t.sc.length c) t.sc) (hn:t.sc.length≤1000000000):
  Calls Tryz.prog 24 #[.agg #[.string t.iss,.string t.jti,.string t.cid,.string t.sub,.slice A t.sc.length c,.int .i64 t.iat,.int .i64 t.exp]] W (CkC W (zcl t)):=by
 obtain⟨i,j,d,s,ns,a,b⟩:=t
 show Calls Tryz.prog 24 #[.agg #[.string i,.string j,.string d,.string s,.slice A ns.length c,.int .i64 a,.int .i64 b]] W (CkC W (visL (strL i)&&visL (strL j)&&visL (strL d)&&zjp s&&zdc ns&&zbu a b))
 have hB1:=zaf W (.cells #[.string i,.string j,.string d,.string s,.slice A ns.length c,.int .i64 a,.int .i64 b] 42)
 have HV:=Lib.hid visible_any
 have HC:=Lib.hid (checkP_any _ ns _ (hs.below hB1) hn)
 have HB1:=Lib.hid hB1
 have HNM:=Lib.hid (fun W=>zgJ s W)
 obtain⟨p,hp⟩: ∃p,p=visL (strL i):=⟨_,rfl⟩
 obtain⟨q,hq⟩: ∃p,p=visL (strL j):=⟨_,rfl⟩
 obtain⟨r,hr⟩: ∃p,p=visL (strL d):=⟨_,rfl⟩
 obtain⟨u,hu⟩: ∃p,p=zjp s:=⟨_,rfl⟩
 obtain⟨z,hz⟩: ∃p,p=zdc ns:=⟨_,rfl⟩
 obtain⟨m,hm⟩: ∃p,p=zbu a b:=⟨_,rfl⟩
 have HP:=Lib.hid (fun W=>by have:=HV.out i W;rw[←hp]at this;exact this)
 have HQ:=Lib.hid (fun W=>by have:=HV.out j W;rw[←hq]at this;exact this)
 have HR:=Lib.hid (fun W=>by have:=HV.out d W;rw[←hr]at this;exact this)
 rw[←hp,←hq,←hr,←hu,←hz,←hm]
 rw[←hz]at HC
 obtain⟨n,hnn⟩: ∃n,n=ns.length:=⟨_,rfl⟩
 rw[←hnn]at HC HB1⊢
 have HU:=Lib.hid hu
 have HM:=Lib.hid hm
 clear hs hn hB1 hp hq hr hz hu hm HV hnn
 unfold CkC
 obtain⟨RV,hrv⟩: ∃v,v=errV (if(p&&q&&r&&u&&z&&m)=true then 0 else 90):=⟨_,rfl⟩
 rw[←hrv]
 have HRV:=Lib.hid hrv
 clear hrv
 go_enter Tryz.func24,Tryz.ntmps24
 go_wp2_with fail
 (with_reducible refine(HP.out _).mono ?_)
 rintro e w' ⟨rfl,rfl⟩
 cases p with
 |false=>
  clear HP HQ HR HC HNM HU HM
  go_wp2
  go_ret
  exact⟨by rw[HRV.out];rfl,HB1.out⟩
 |true=>
  clear HP
  go_wp2_with fail
  (with_reducible refine(HQ.out _).mono ?_)
  rintro e w' ⟨rfl,rfl⟩
  cases q with
  |false=>
   clear HQ HR HC HNM HU HM
   go_wp2
   go_ret
   exact⟨by rw[HRV.out];rfl,HB1.out⟩
  |true=>
   clear HQ
   go_wp2_with fail
   (with_reducible refine(HR.out _).mono ?_)
   rintro e w' ⟨rfl,rfl⟩
   cases r with
   |false=>
    clear HR HC HNM HU HM
    go_wp2
    go_ret
    exact⟨by rw[HRV.out];rfl,HB1.out⟩
   |true=>
    clear HR
    by_cases hs0:s.size=0
    ·obtain rfl:=zfZ hs0
     obtain rfl:u=true:=HU.out
     clear HU hs0 HNM
     go_wp2_with fail
     (with_reducible refine HC.out.mono ?_)
     rintro e w' ⟨rfl,rfl⟩
     cases z with
     |false=>
      rw[show SErr false= .iface 95 (.int .i64 70)from rfl]
      clear HC HM
      go_wp2
      go_ret
      exact⟨by rw[HRV.out];rfl,HB1.out⟩
     |true=>
      rw[show SErr true= .nilIface from rfl]
      clear HC
      by_cases t1:a<0
      ·have HM2:Hid (m=false):=Lib.hid (by rw[HM.out];unfold zbu;exact decide_eq_false (by omega))
       go_wp2
       go_ret
       exact⟨by rw[HRV.out,HM2.out];rfl,HB1.out⟩
      ·by_cases t2:b<a
       ·have HM2:Hid (m=false):=Lib.hid (by rw[HM.out];unfold zbu;exact decide_eq_false (by omega))
        go_wp2
        go_ret
        exact⟨by rw[HRV.out,HM2.out];rfl,HB1.out⟩
       ·by_cases t3:2199023255552<b
        ·have HM2:Hid (m=false):=Lib.hid (by rw[HM.out];unfold zbu;exact decide_eq_false (by omega))
         go_wp2
         go_ret
         exact⟨by rw[HRV.out,HM2.out];rfl,HB1.out⟩
        ·have HM2:Hid (m=true):=Lib.hid (by rw[HM.out];unfold zbu;exact decide_eq_true (by omega))
         go_wp2
         go_ret
         exact⟨by rw[HRV.out,HM2.out];rfl,HB1.out⟩
    ·have hne:=zco hs0
     have hne3:=zbx hs0
     have HU2:Hid (u=zbh (strL s)):=Lib.hid (by rw[HU.out];unfold zjp;rw[decide_eq_false hs0,Bool.false_or])
     rw[←HU2.out]at HNM
     clear HU HU2 hs0
     go_wp2_with fail
     (with_reducible refine(HNM.out _).mono ?_)
     rintro e w' ⟨rfl,rfl⟩
     cases u with
     |false=>
      clear HC HNM HM
      go_wp2
      go_ret
      exact⟨by rw[HRV.out];rfl,HB1.out⟩
     |true=>
      clear HNM
      go_wp2_with fail
      (with_reducible refine HC.out.mono ?_)
      rintro e w' ⟨rfl,rfl⟩
      cases z with
      |false=>
       rw[show SErr false= .iface 95 (.int .i64 70)from rfl]
       clear HC HM
       go_wp2
       go_ret
       exact⟨by rw[HRV.out];rfl,HB1.out⟩
      |true=>
       rw[show SErr true= .nilIface from rfl]
       clear HC
       by_cases t1:a<0
       ·have HM2:Hid (m=false):=Lib.hid (by rw[HM.out];unfold zbu;exact decide_eq_false (by omega))
        go_wp2
        go_ret
        exact⟨by rw[HRV.out,HM2.out];rfl,HB1.out⟩
       ·by_cases t2:b<a
        ·have HM2:Hid (m=false):=Lib.hid (by rw[HM.out];unfold zbu;exact decide_eq_false (by omega))
         go_wp2
         go_ret
         exact⟨by rw[HRV.out,HM2.out];rfl,HB1.out⟩
        ·by_cases t3:2199023255552<b
         ·have HM2:Hid (m=false):=Lib.hid (by rw[HM.out];unfold zbu;exact decide_eq_false (by omega))
          go_wp2
          go_ret
          exact⟨by rw[HRV.out,HM2.out];rfl,HB1.out⟩
         ·have HM2:Hid (m=true):=Lib.hid (by rw[HM.out];unfold zbu;exact decide_eq_true (by omega))
          go_wp2
          go_ret
          exact⟨by rw[HRV.out,HM2.out];rfl,HB1.out⟩
end Go.Proofs.YtjfgmgkhinehaaaGreatDoor
