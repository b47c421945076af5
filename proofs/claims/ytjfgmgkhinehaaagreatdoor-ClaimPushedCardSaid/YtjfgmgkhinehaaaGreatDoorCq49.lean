
import Derived.Test.YtjfgmgkhinehaaaGreatDoorCq04
import Derived.Test.YtjfgmgkhinehaaaGreatDoorCq48
set_option maxRecDepth 100000
set_option maxHeartbeats 16000000
set_option linter.all false
namespace Go.Proofs.YtjfgmgkhinehaaaGreatDoor
open Go Go.RowKit
theorem zjh (x:UInt8):wrap64 (x.toNat:Int)=(x.toNat:Int):=by
 have:=x.toNat_lt
 unfold wrap64
 omega
theorem zay (s:ByteArray) (i:Nat) (w:World) (hs:s.size≤9223372036854775807) (hi:i≤9223372036854775807):
  Calls Tryz.prog 127 #[.string s,.int .i64 (i:Int)] w fun e w'=>e= .returned (.int .i64 (atL (strL s) i))∧w=w':=by
 by_cases h:i<s.size
 ·have HG:=Lib.hid (zhJ s i h)
  have h2:(i:Int)<(s.size:Int):=by omega
  have h3:(0:Int)≤(i:Int):=by omega
  have HW:Hid (wrap64 (s[i].toNat:Int)=(s[i].toNat:Int)):=Lib.hid (zjh s[i])
  go_enter Tryz.func127,Tryz.ntmps127
  go_wp2
  go_ret
  exact⟨ziW (HW.out.trans HG.out.symm),rfl⟩
 ·have HG:=Lib.hid (zob s i (by omega))
  have h2: ¬(i:Int)<(s.size:Int):=by omega
  clear h
  go_enter Tryz.func127,Tryz.ntmps127
  go_wp2
  go_ret
  exact⟨ziW HG.out.symm,rfl⟩
theorem zdf (s:ByteArray) (i:Nat) (w:World) (hs:s.size≤9223372036854775807) (hi:i≤s.size):
  Calls Tryz.prog 95 #[.string s,.int .i64 (i:Int)] w fun e w'=>e= .returned (.int .i64 (zaY (strL s) i:Nat))∧w=w':=by
 have HI:=Lib.hid hi
 clear hi
 go_enter Tryz.func95,Tryz.ntmps95
 go_wp2
 go_loop [1] (fun v=> ∃k:Nat,k≤s.size∧v= .int .i64 (k:Int)∧zaY (strL s) i=zaY (strL s) k) (fun v=>s.size-(intOf v).toNat)
 case atStart=>exact⟨i,HI.out,rfl,rfl⟩
 case round=>
  obtain⟨k,hk,rfl,hsk⟩:=hrel
  have HS:=Lib.hid hsk
  clear hsk
  by_cases h:k<s.size
  ·have HG:=Lib.hid (zhJ s k h)
   have h2:(k:Int)<(s.size:Int):=by omega
   have h3:(0:Int)≤(k:Int):=by omega
   obtain⟨c,hc⟩: ∃c:Int,c=(s[k].toNat:Int):=⟨_,rfl⟩
   have hc9: ∀d:Int,(s[k].toNat:Int)≠d→((s[k].toNat:Int)==d)=false:=fun d h=>by rw[beq_eq_false_iff_ne];exact h
   by_cases hb:isB (atL (strL s) k)=true
   ·have HR:=Lib.hid (zgm hb)
    rw[HG.out,isB,decide_eq_true_eq]at hb
    clear hc
    by_cases b1:(s[k].toNat:Int)=32
    ·clear hb hc9
     go_wp2
     exact⟨⟨k+1,by omega,by go_num,HS.out.trans HR.out⟩,by simp[intOf];omega⟩
    ·have b1':=hc9 32 b1
     by_cases b2:(s[k].toNat:Int)=9
     ·clear hb hc9 b1
      go_wp2
      exact⟨⟨k+1,by omega,by go_num,HS.out.trans HR.out⟩,by simp[intOf];omega⟩
     ·have b2':=hc9 9 b2
      by_cases b3:(s[k].toNat:Int)=10
      ·clear hb hc9 b1 b2
       go_wp2
       exact⟨⟨k+1,by omega,by go_num,HS.out.trans HR.out⟩,by simp[intOf];omega⟩
      ·have b3':=hc9 10 b3
       have b4:(s[k].toNat:Int)=13:=by omega
       clear hb hc9 b1 b2 b3
       go_wp2
       exact⟨⟨k+1,by omega,by go_num,HS.out.trans HR.out⟩,by simp[intOf];omega⟩
   ·have HR:=Lib.hid (zeq hb)
    rw[HG.out,isB,decide_eq_true_eq]at hb
    have b1:=hc9 32 (by omega)
    have b2:=hc9 9 (by omega)
    have b3:=hc9 10 (by omega)
    have b4:=hc9 13 (by omega)
    clear hc hb hc9
    go_wp2
    go_ret
    rw[HS.out,HR.out]
    exact⟨rfl,rfl⟩
  ·have HR:Hid (zaY (strL s) k=k):=Lib.hid (by rw[zaY,dif_neg (by rw[zaX];exact h)])
   have h2: ¬(k:Int)<(s.size:Int):=by omega
   clear h
   go_wp2
   go_ret
   rw[HS.out,HR.out]
   exact⟨rfl,rfl⟩
theorem zes (s:ByteArray) (I:Int) (i:Nat) (w:World) (hI:I=(i:Int)) (hs:s.size≤9223372036854775807) (hi:i≤9223372036854775807):
  Calls Tryz.prog 127 #[.string s,.int .i64 I] w fun e w'=>e= .returned (.int .i64 (atL (strL s) i))∧w=w':=by
 subst hI;exact zay s i w hs hi
theorem zgq (s x:ByteArray) (i:Nat) (w:World) (hs:s.size≤9223372036854775807) (hx:x.size≤300) (hi:i≤9223372036854770000):
  Calls Tryz.prog 130 #[.string s,.int .i64 (i:Int),.string x] w fun e w'=>e= .returned (.tuple #[.int .i64 ((zbq (strL s) i (strL x)).1:Int),.int .i64 (zbq (strL s) i (strL x)).2])∧Below w.heap.size w w':=by
 have HX:=Lib.hid (zaX x)
 go_enter Tryz.func130,Tryz.ntmps130
 go_wp2
 go_loopw[8] (fun v wr=> ∃k:Nat,k≤x.size∧v= .int .i64 (k:Int)∧zbq (strL s) i (strL x)=zbq (strL s) (i+k) ((strL x).drop k)∧Below w.heap.size w wr) (fun v _=>x.size-(intOf v).toNat)
 case atStart=>exact⟨0,by omega,rfl,rfl,Below.refl _ _⟩
 case round=>
  obtain⟨k,hk,rfl,hrun,hbel⟩:=hrel
  have HRUN:=Lib.hid hrun
  have HBE:=Lib.hid hbel
  clear hrun hbel
  by_cases h:k<x.size
  ·have HW:=Lib.hid (zle (l:=strL s) (i:=i+k) (k:=k) (x:=strL x) (by rw[HX.out];exact h))
   have HG:=Lib.hid (zaz x k h)
   have hwr:wrap64 ((x[k]'h).toNat:Int)=((x[k]'h).toNat:Int):=zjh _
   have HB:=Lib.hid (atL_bd s (i+k))
   obtain⟨c,hc⟩: ∃c,c=atL (strL s) (i+k):=⟨_,rfl⟩
   have HCC:Hid (∀W:World,Calls Tryz.prog 127 #[.string s,.int .i64 ((i:Int)+(k:Int))] W fun e w'=>e= .returned (.int .i64 c)∧w'=W):=Lib.hid fun W=>by
    rw[hc]
    exact(zes s _ (i+k) W (by omega) (by omega) (by omega)).mono fun _ _ (hh:_∧_)=>(⟨hh.1,hh.2.symm⟩:_∧_)
   rw[HG.out,←hc]at HW
   have h0:(0:Int)≤(k:Int):=by omega
   have h2:(k:Int)<(x.size:Int):=by omega
   clear hc
   by_cases e:c=((x[k]'h).toNat:Int)
   ·have e1:(c==((x[k]'h).toNat:Int))=true:=by rw[beq_iff_eq];exact e
    have e2:(c !=((x[k]'h).toNat:Int))=false:=by rw[bne,e1];rfl
    have HE:Hid (zbq (strL s) (i+k) ((strL x).drop k)=zbq (strL s) (i+(k+1)) ((strL x).drop (k+1))):=Lib.hid (by rw[HW.out,if_pos e];rfl)
    clear e
    go_wp2
    go_quiet ((go_at_call 127;exact Calls.quiet_of_same (HCC.out _)))
    go_wp2
    go_roundw
    case rel=>exact⟨k+1,by omega,by go_num,HRUN.out.trans HE.out,zcQ HBE.out _⟩
    case measure=>simp[intOf];omega
   ·have e1:(c==((x[k]'h).toNat:Int))=false:=by rw[beq_eq_false_iff_ne];exact e
    have e2:(c !=((x[k]'h).toNat:Int))=true:=by rw[bne,e1];rfl
    have HE:Hid (zbq (strL s) (i+k) ((strL x).drop k)=(i+k,50)):=Lib.hid (by rw[HW.out,if_neg e])
    clear e
    go_wp2
    go_quiet ((go_at_call 127;exact Calls.quiet_of_same (HCC.out _)))
    go_wp2
    go_ret2
    rw[HRUN.out,HE.out]
    exact⟨rfl,zcQ HBE.out _⟩
  ·obtain rfl:k=x.size:=by omega
   have h2: ¬(x.size:Int)<(x.size:Int):=by omega
   have HE:Hid (zbq (strL s) (i+x.size) ((strL x).drop x.size)=(i+x.size,0)):=Lib.hid (by rw[List.drop_eq_nil_of_le (by rw[HX.out];exact Nat.le_refl _),zbq])
   go_wp2
   go_ret2
   rw[HRUN.out,HE.out]
   exact⟨rfl,HBE.out⟩
theorem refHex_any (s:ByteArray) (i:Nat) (w:World) (hs:s.size≤9223372036854775807) (hi:i≤9223372036854770000):
  Calls Tryz.prog 160 #[.string s,.int .i64 (i:Int)] w fun e w'=>e= .returned (.tuple #[.int .i64 (hexL (strL s) 4 i 0).1,.int .i64 (hexL (strL s) 4 i 0).2])∧Below w.heap.size w w':=by
 have HL:=Lib.hid (zaX s)
 go_enter Tryz.func160,Tryz.ntmps160
 go_wp2
 go_loopw[6,7] (fun u v wr=> ∃(j:Nat) (n:Int),j≤4∧v= .int .i64 ((i:Int)+(j:Int))∧u= .int .i64 n∧0≤n∧n<16^j∧hexL (strL s) 4 i 0=hexL (strL s) (4-j) (i+j) n∧Below w.heap.size w wr) (fun _ v _=>i+4-(intOf v).toNat)
 case atStart=>exact⟨0,0,by omega,by simp,rfl,by omega,by decide,rfl,Below.refl _ _⟩
 case round=>
  obtain⟨j,n,hj,rfl,rfl,hn0,hnj,hrun,hbel⟩:=hrel
  have HRUN:=Lib.hid hrun
  have HBE:=Lib.hid hbel
  have HNJ:=Lib.hid hnj
  have hn4:n≤65536:=by
   have:j=0∨j=1∨j=2∨j=3∨j=4:=by omega
   rcases this with rfl|rfl|rfl|rfl|rfl<;>omega
  clear hrun hbel hnj
  by_cases h:j<4
  ·have h2:(i:Int)+(j:Int)<(i:Int)+4:=by omega
   obtain⟨c,hc⟩: ∃c,c=atL (strL s) (i+j):=⟨_,rfl⟩
   have hb:=atL_bd s (i+j)
   rw[←hc]at hb
   obtain⟨hb0,hb1⟩:=hb
   have HCC:Hid (∀W:World,Calls Tryz.prog 127 #[.string s,.int .i64 ((i:Int)+(j:Int))] W fun e w'=>e= .returned (.int .i64 c)∧w'=W):=Lib.hid fun W=>by
    rw[hc]
    exact(zes s _ (i+j) W (by omega) (by omega) (by omega)).mono fun _ _ (hh:_∧_)=>(⟨hh.1,hh.2.symm⟩:_∧_)
   have HST:Hid (hexL (strL s) (4-j) (i+j) n=if hexD c<0 then(-1,((min (i+j) s.size:Nat):Int))else hexL (strL s) (4-(j+1)) (i+(j+1)) (16*n+hexD c)):=Lib.hid (by
    rw[show 4-j=(4-(j+1))+1 by omega,hexL,←hc,HL.out];rfl)
   have HB1:Hid (∀d:Int,d≤15→16*n+d<16^(j+1)):=Lib.hid fun d hd=>by have:=HNJ.out;rw[Int.pow_succ];omega
   clear hc
   have hsplit:(c<48)∨(48≤c∧c≤57)∨(58≤c∧c≤64)∨(65≤c∧c≤70)∨(71≤c∧c≤96)∨(97≤c∧c≤102)∨(103≤c):=by omega
   rcases hsplit with hv|hv|hv|hv|hv|hv|hv
   ·have t0: ¬48≤c:=by omega
    have t1:c≤57:=by omega
    have t2: ¬97≤c:=by omega
    have t3:c≤102:=by omega
    have t4: ¬65≤c:=by omega
    have t5:c≤70:=by omega
    have HD:Hid (hexD c= -1):=Lib.hid (by unfold hexD;rw[if_neg (by omega),if_neg (by omega),if_neg (by omega)])
    have HR:Hid (hexL (strL s) 4 i 0=(-1,((min (i+j) s.size:Nat):Int))):=Lib.hid (by rw[HRUN.out,HST.out,HD.out,if_pos (by decide)])
    have hneg:(-1:Int)<0:=by decide
    clear hv
    go_wp2_with(go_at_call 127;(with_reducible refine(HCC.out _).mono ?_);rintro e w' ⟨rfl,rfl⟩)
    all_goals go_ret2
    all_goals rw[HR.out]
    ·rw[show min (i+j) s.size=s.size by omega];exact⟨rfl,HBE.out⟩
    ·rw[show min (i+j) s.size=i+j by omega];exact⟨rfl,HBE.out⟩
   ·have t0:48≤c:=by omega
    have t1:c≤57:=by omega
    have t2: ¬97≤c:=by omega
    have t3:c≤102:=by omega
    have t4: ¬65≤c:=by omega
    have t5:c≤70:=by omega
    have HD:Hid (hexD c=c-48):=Lib.hid (by unfold hexD;rw[if_pos (by omega)])
    have HR:Hid (hexL (strL s) 4 i 0=hexL (strL s) (4-(j+1)) (i+(j+1)) (16*n+(c-48))):=Lib.hid (by rw[HRUN.out,HST.out,HD.out,if_neg (by omega)])
    have hnn: ¬(c-48)<0:=by omega
    clear hv
    go_wp2_with(go_at_call 127;(with_reducible refine(HCC.out _).mono ?_);rintro e w' ⟨rfl,rfl⟩)
    go_roundw
    case rel=>exact⟨j+1,16*n+(c-48),by omega,by go_num,by go_num,by omega,HB1.out _ (by omega),HR.out,HBE.out⟩
    case measure=>simp[intOf];omega
   ·have t0:48≤c:=by omega
    have t1: ¬c≤57:=by omega
    have t2: ¬97≤c:=by omega
    have t3:c≤102:=by omega
    have t4: ¬65≤c:=by omega
    have t5:c≤70:=by omega
    have HD:Hid (hexD c= -1):=Lib.hid (by unfold hexD;rw[if_neg (by omega),if_neg (by omega),if_neg (by omega)])
    have HR:Hid (hexL (strL s) 4 i 0=(-1,((min (i+j) s.size:Nat):Int))):=Lib.hid (by rw[HRUN.out,HST.out,HD.out,if_pos (by decide)])
    have hneg:(-1:Int)<0:=by decide
    clear hv
    go_wp2_with(go_at_call 127;(with_reducible refine(HCC.out _).mono ?_);rintro e w' ⟨rfl,rfl⟩)
    all_goals go_ret2
    all_goals rw[HR.out]
    ·rw[show min (i+j) s.size=s.size by omega];exact⟨rfl,HBE.out⟩
    ·rw[show min (i+j) s.size=i+j by omega];exact⟨rfl,HBE.out⟩
   ·have t0:48≤c:=by omega
    have t1: ¬c≤57:=by omega
    have t2: ¬97≤c:=by omega
    have t3:c≤102:=by omega
    have t4:65≤c:=by omega
    have t5:c≤70:=by omega
    have HD:Hid (hexD c=c-65+10):=Lib.hid (by unfold hexD;rw[if_neg (by omega),if_neg (by omega),if_pos (by omega)])
    have HR:Hid (hexL (strL s) 4 i 0=hexL (strL s) (4-(j+1)) (i+(j+1)) (16*n+(c-65+10))):=Lib.hid (by rw[HRUN.out,HST.out,HD.out,if_neg (by omega)])
    have hnn: ¬(c-65+10)<0:=by omega
    clear hv
    go_wp2_with(go_at_call 127;(with_reducible refine(HCC.out _).mono ?_);rintro e w' ⟨rfl,rfl⟩)
    go_roundw
    case rel=>exact⟨j+1,16*n+(c-65+10),by omega,by go_num,by go_num,by omega,HB1.out _ (by omega),HR.out,HBE.out⟩
    case measure=>simp[intOf];omega
   ·have t0:48≤c:=by omega
    have t1: ¬c≤57:=by omega
    have t2: ¬97≤c:=by omega
    have t3:c≤102:=by omega
    have t4:65≤c:=by omega
    have t5: ¬c≤70:=by omega
    have HD:Hid (hexD c= -1):=Lib.hid (by unfold hexD;rw[if_neg (by omega),if_neg (by omega),if_neg (by omega)])
    have HR:Hid (hexL (strL s) 4 i 0=(-1,((min (i+j) s.size:Nat):Int))):=Lib.hid (by rw[HRUN.out,HST.out,HD.out,if_pos (by decide)])
    have hneg:(-1:Int)<0:=by decide
    clear hv
    go_wp2_with(go_at_call 127;(with_reducible refine(HCC.out _).mono ?_);rintro e w' ⟨rfl,rfl⟩)
    all_goals go_ret2
    all_goals rw[HR.out]
    ·rw[show min (i+j) s.size=s.size by omega];exact⟨rfl,HBE.out⟩
    ·rw[show min (i+j) s.size=i+j by omega];exact⟨rfl,HBE.out⟩
   ·have t0:48≤c:=by omega
    have t1: ¬c≤57:=by omega
    have t2:97≤c:=by omega
    have t3:c≤102:=by omega
    have t4:65≤c:=by omega
    have t5: ¬c≤70:=by omega
    have HD:Hid (hexD c=c-97+10):=Lib.hid (by unfold hexD;rw[if_neg (by omega),if_pos (by omega)])
    have HR:Hid (hexL (strL s) 4 i 0=hexL (strL s) (4-(j+1)) (i+(j+1)) (16*n+(c-97+10))):=Lib.hid (by rw[HRUN.out,HST.out,HD.out,if_neg (by omega)])
    have hnn: ¬(c-97+10)<0:=by omega
    clear hv
    go_wp2_with(go_at_call 127;(with_reducible refine(HCC.out _).mono ?_);rintro e w' ⟨rfl,rfl⟩)
    go_roundw
    case rel=>exact⟨j+1,16*n+(c-97+10),by omega,by go_num,by go_num,by omega,HB1.out _ (by omega),HR.out,HBE.out⟩
    case measure=>simp[intOf];omega
   ·have t0:48≤c:=by omega
    have t1: ¬c≤57:=by omega
    have t2:97≤c:=by omega
    have t3: ¬c≤102:=by omega
    have t4:65≤c:=by omega
    have t5: ¬c≤70:=by omega
    have HD:Hid (hexD c= -1):=Lib.hid (by unfold hexD;rw[if_neg (by omega),if_neg (by omega),if_neg (by omega)])
    have HR:Hid (hexL (strL s) 4 i 0=(-1,((min (i+j) s.size:Nat):Int))):=Lib.hid (by rw[HRUN.out,HST.out,HD.out,if_pos (by decide)])
    have hneg:(-1:Int)<0:=by decide
    clear hv
    go_wp2_with(go_at_call 127;(with_reducible refine(HCC.out _).mono ?_);rintro e w' ⟨rfl,rfl⟩)
    all_goals go_ret2
    all_goals rw[HR.out]
    ·rw[show min (i+j) s.size=s.size by omega];exact⟨rfl,HBE.out⟩
    ·rw[show min (i+j) s.size=i+j by omega];exact⟨rfl,HBE.out⟩
  ·obtain rfl:j=4:=by omega
   have HR:Hid (hexL (strL s) 4 i 0=(n,0)):=Lib.hid (by rw[HRUN.out];rfl)
   have h2: ¬(i:Int)+4<(i:Int)+4:=by omega
   go_wp2
   go_ret2
   rw[HR.out]
   exact⟨rfl,HBE.out⟩
theorem zeh (x:Int) (W:World):(convert 80 9 (.slice (some ⟨W.heap.size,0,none⟩) 1 1)).run Tryz.prog (W.alloc (.cells #[.int .u8 x] 5))= .ok (.string (toS [x])) (W.alloc (.cells #[.int .u8 x] 5)):=
 zcV _ [x] 1 1 _ rfl (Lies.lit W _ _ _)
theorem refPlain_any (c:Int) (w:World):Calls Tryz.prog 159 #[.int .i64 c] w fun e w'=>e= .returned (.string (toS (zaq c)))∧Below w.heap.size w w':=by
 by_cases h:c=34∨c=92∨c=47∨c=98∨c=102∨c=110∨c=114∨c=116
 ·rcases h with rfl|rfl|rfl|rfl|rfl|rfl|rfl|rfl
  ·rw[show zaq 34=[34]by decide]
   have hcv:=fun W=>zeh 34 W
   obtain⟨T,hT⟩: ∃T,T=toS [34]:=⟨_,rfl⟩
   rw[←hT]at hcv⊢
   clear hT
   go_enter Tryz.func159,Tryz.ntmps159
   go_wp2
   go_ret
   exact⟨rfl,zaf _ _⟩
  ·rw[show zaq 92=[92]by decide]
   have hcv:=fun W=>zeh 92 W
   obtain⟨T,hT⟩: ∃T,T=toS [92]:=⟨_,rfl⟩
   rw[←hT]at hcv⊢
   clear hT
   go_enter Tryz.func159,Tryz.ntmps159
   go_wp2
   go_ret
   exact⟨rfl,zaf _ _⟩
  ·rw[show zaq 47=[47]by decide]
   have hcv:=fun W=>zeh 47 W
   obtain⟨T,hT⟩: ∃T,T=toS [47]:=⟨_,rfl⟩
   rw[←hT]at hcv⊢
   clear hT
   go_enter Tryz.func159,Tryz.ntmps159
   go_wp2
   go_ret
   exact⟨rfl,zaf _ _⟩
  ·rw[show zaq 98=[8]by decide]
   have hcv:=fun W=>zeh 8 W
   obtain⟨T,hT⟩: ∃T,T=toS [8]:=⟨_,rfl⟩
   rw[←hT]at hcv⊢
   clear hT
   go_enter Tryz.func159,Tryz.ntmps159
   go_wp2
   go_ret
   exact⟨rfl,zaf _ _⟩
  ·rw[show zaq 102=[12]by decide]
   have hcv:=fun W=>zeh 12 W
   obtain⟨T,hT⟩: ∃T,T=toS [12]:=⟨_,rfl⟩
   rw[←hT]at hcv⊢
   clear hT
   go_enter Tryz.func159,Tryz.ntmps159
   go_wp2
   go_ret
   exact⟨rfl,zaf _ _⟩
  ·rw[show zaq 110=[10]by decide]
   have hcv:=fun W=>zeh 10 W
   obtain⟨T,hT⟩: ∃T,T=toS [10]:=⟨_,rfl⟩
   rw[←hT]at hcv⊢
   clear hT
   go_enter Tryz.func159,Tryz.ntmps159
   go_wp2
   go_ret
   exact⟨rfl,zaf _ _⟩
  ·rw[show zaq 114=[13]by decide]
   have hcv:=fun W=>zeh 13 W
   obtain⟨T,hT⟩: ∃T,T=toS [13]:=⟨_,rfl⟩
   rw[←hT]at hcv⊢
   clear hT
   go_enter Tryz.func159,Tryz.ntmps159
   go_wp2
   go_ret
   exact⟨rfl,zaf _ _⟩
  ·rw[show zaq 116=[9]by decide]
   have hcv:=fun W=>zeh 9 W
   obtain⟨T,hT⟩: ∃T,T=toS [9]:=⟨_,rfl⟩
   rw[←hT]at hcv⊢
   clear hT
   go_enter Tryz.func159,Tryz.ntmps159
   go_wp2
   go_ret
   exact⟨rfl,zaf _ _⟩
 ·rw[show zaq c=[]by unfold zaq;rw[if_neg (by omega),if_neg (by omega),if_neg (by omega),if_neg (by omega),if_neg (by omega),if_neg (by omega)]]
  have n0:(c==34)=false:=by rw[beq_eq_false_iff_ne];omega
  have n1:(c==92)=false:=by rw[beq_eq_false_iff_ne];omega
  have n2:(c==47)=false:=by rw[beq_eq_false_iff_ne];omega
  have n3:(c==98)=false:=by rw[beq_eq_false_iff_ne];omega
  have n4:(c==102)=false:=by rw[beq_eq_false_iff_ne];omega
  have n5:(c==110)=false:=by rw[beq_eq_false_iff_ne];omega
  have n6:(c==114)=false:=by rw[beq_eq_false_iff_ne];omega
  have n7:(c==116)=false:=by rw[beq_eq_false_iff_ne];omega
  clear h
  go_enter Tryz.func159,Tryz.ntmps159
  go_wp2
  go_ret
  exact⟨rfl,Below.refl _ _⟩
theorem refPut_none (n:Int) (w:World) (h:n<0∨1114111<n∨(55296≤n∧n≤57343)):
  Calls Tryz.prog 161 #[.int .i64 n] w fun e w'=>e= .returned (.string (toS (putL n)))∧Below w.heap.size w w':=by
 have hS:toS (putL n)=⟨#[]⟩:=by rw[zfr h];rfl
 rw[hS]
 clear hS
 rcases h with h|h|⟨h,h'⟩
 all_goals
  go_enter Tryz.func161,Tryz.ntmps161
  go_wp2
  go_ret
  exact⟨rfl,Below.refl _ _⟩
theorem refPut_one (n:Int) (w:World) (h0:0≤n) (h1:n<128):
  Calls Tryz.prog 161 #[.int .i64 n] w fun e w'=>e= .returned (.string (toS (putL n)))∧Below w.heap.size w w':=by
 have hp:putL n=[n]:=zfY h0 h1
 have hcv: ∀W:World,(convert 80 9 (.slice (some ⟨W.heap.size,0,none⟩) 1 1)).run Tryz.prog (W.alloc (.cells #[.int .u8 (n)] 5))= .ok (.string (toS [n])) (W.alloc (.cells #[.int .u8 (n)] 5)):=fun W=>
  zcV _ [n] 1 1 _ rfl (Lies.lit W _ _ _)
 rw[hp]
 obtain⟨S,hS⟩: ∃S,S=toS [n]:=⟨_,rfl⟩
 rw[←hS]at hcv⊢
 clear hS hp
 go_enter Tryz.func161,Tryz.ntmps161
 go_wp2
 go_ret
 exact⟨rfl,zaf _ _⟩
theorem refPut_two (n:Int) (w:World) (h0:128≤n) (h1:n<2048):
  Calls Tryz.prog 161 #[.int .i64 n] w fun e w'=>e= .returned (.string (toS (putL n)))∧Below w.heap.size w w':=by
 have hp:putL n=[192+n/64,128+n%64]:=zjK h0 h1
 have hcv: ∀W:World,(convert 80 9 (.slice (some ⟨W.heap.size,0,none⟩) 2 2)).run Tryz.prog (W.alloc (.cells #[.int .u8 (192+n/64),.int .u8 (128+n%64)] 5))= .ok (.string (toS [192+n/64,128+n%64])) (W.alloc (.cells #[.int .u8 (192+n/64),.int .u8 (128+n%64)] 5)):=fun W=>
  zcV _ [192+n/64,128+n%64] 2 2 _ rfl (Lies.lit W _ _ _)
 rw[hp]
 obtain⟨S,hS⟩: ∃S,S=toS [192+n/64,128+n%64]:=⟨_,rfl⟩
 rw[←hS]at hcv⊢
 clear hS hp
 go_enter Tryz.func161,Tryz.ntmps161
 go_wp2
 go_ret
 exact⟨rfl,zaf _ _⟩
theorem refPut_three (n:Int) (w:World) (h0:2048≤n) (h1:n<65536) (h2:n<55296):
  Calls Tryz.prog 161 #[.int .i64 n] w fun e w'=>e= .returned (.string (toS (putL n)))∧Below w.heap.size w w':=by
 have hp:putL n=[224+n/4096,128+n/64%64,128+n%64]:=zeu h0 h1 (by omega)
 have hcv: ∀W:World,(convert 80 9 (.slice (some ⟨W.heap.size,0,none⟩) 3 3)).run Tryz.prog (W.alloc (.cells #[.int .u8 (224+n/4096),.int .u8 (128+n/64%64),.int .u8 (128+n%64)] 5))= .ok (.string (toS [224+n/4096,128+n/64%64,128+n%64])) (W.alloc (.cells #[.int .u8 (224+n/4096),.int .u8 (128+n/64%64),.int .u8 (128+n%64)] 5)):=fun W=>
  zcV _ [224+n/4096,128+n/64%64,128+n%64] 3 3 _ rfl (Lies.lit W _ _ _)
 rw[hp]
 obtain⟨S,hS⟩: ∃S,S=toS [224+n/4096,128+n/64%64,128+n%64]:=⟨_,rfl⟩
 rw[←hS]at hcv⊢
 clear hS hp
 go_enter Tryz.func161,Tryz.ntmps161
 go_wp2
 go_ret
 exact⟨rfl,zaf _ _⟩
theorem znb (n:Int) (w:World) (h0:2048≤n) (h1:n<65536) (h2:57343<n):
  Calls Tryz.prog 161 #[.int .i64 n] w fun e w'=>e= .returned (.string (toS (putL n)))∧Below w.heap.size w w':=by
 have hp:putL n=[224+n/4096,128+n/64%64,128+n%64]:=zeu h0 h1 (by omega)
 have hcv: ∀W:World,(convert 80 9 (.slice (some ⟨W.heap.size,0,none⟩) 3 3)).run Tryz.prog (W.alloc (.cells #[.int .u8 (224+n/4096),.int .u8 (128+n/64%64),.int .u8 (128+n%64)] 5))= .ok (.string (toS [224+n/4096,128+n/64%64,128+n%64])) (W.alloc (.cells #[.int .u8 (224+n/4096),.int .u8 (128+n/64%64),.int .u8 (128+n%64)] 5)):=fun W=>
  zcV _ [224+n/4096,128+n/64%64,128+n%64] 3 3 _ rfl (Lies.lit W _ _ _)
 rw[hp]
 obtain⟨S,hS⟩: ∃S,S=toS [224+n/4096,128+n/64%64,128+n%64]:=⟨_,rfl⟩
 rw[←hS]at hcv⊢
 clear hS hp
 go_enter Tryz.func161,Tryz.ntmps161
 go_wp2
 go_ret
 exact⟨rfl,zaf _ _⟩
theorem refPut_four (n:Int) (w:World) (h0:65536≤n) (h1:n≤1114111):
  Calls Tryz.prog 161 #[.int .i64 n] w fun e w'=>e= .returned (.string (toS (putL n)))∧Below w.heap.size w w':=by
 have hp:putL n=[240+n/262144,128+n/4096%64,128+n/64%64,128+n%64]:=zhk h0 h1
 have hcv: ∀W:World,(convert 80 9 (.slice (some ⟨W.heap.size,0,none⟩) 4 4)).run Tryz.prog (W.alloc (.cells #[.int .u8 (240+n/262144),.int .u8 (128+n/4096%64),.int .u8 (128+n/64%64),.int .u8 (128+n%64)] 5))= .ok (.string (toS [240+n/262144,128+n/4096%64,128+n/64%64,128+n%64])) (W.alloc (.cells #[.int .u8 (240+n/262144),.int .u8 (128+n/4096%64),.int .u8 (128+n/64%64),.int .u8 (128+n%64)] 5)):=fun W=>
  zcV _ [240+n/262144,128+n/4096%64,128+n/64%64,128+n%64] 4 4 _ rfl (Lies.lit W _ _ _)
 rw[hp]
 obtain⟨S,hS⟩: ∃S,S=toS [240+n/262144,128+n/4096%64,128+n/64%64,128+n%64]:=⟨_,rfl⟩
 rw[←hS]at hcv⊢
 clear hS hp
 go_enter Tryz.func161,Tryz.ntmps161
 go_wp2
 go_ret
 exact⟨rfl,zaf _ _⟩
theorem zia (n:Int) (w:World):
  Calls Tryz.prog 161 #[.int .i64 n] w fun e w'=>e= .returned (.string (toS (putL n)))∧Below w.heap.size w w':=by
 rcases zcu n with⟨h,h'⟩|⟨h1,h2,h⟩|⟨h1,h2,h⟩|⟨h1,h2,h3,h⟩|⟨h1,h2,h⟩
 ·exact refPut_none n w h'
 ·exact refPut_one n w h1 h2
 ·exact refPut_two n w h1 h2
 ·rcases h3 with h3|h3
  ·exact refPut_three n w h1 h2 h3
  ·exact znb n w h1 h2 h3
 ·exact refPut_four n w h1 h2
def NoneBelow (l:List Int) (k:Nat):Prop:= ∀q,1≤q→q<k→q≤l.length→ ¬putL (refC l q)=l.take q
theorem NoneBelow.step {l:List Int} {k:Nat} (h:NoneBelow l k) (hk: ¬putL (refC l k)=l.take k):NoneBelow l (k+1):=fun q h1 h2 h3=>by
 rcases Nat.lt_or_ge q k with hq|hq
 ·exact h q h1 hq h3
 ·obtain rfl:q=k:=by omega
  exact hk
def refM (k:Nat):Int:=if k=1 then 256 else if k=2 then 32 else if k=3 then 16 else 8
theorem zne (w:World):
  Calls Tryz.prog 158 #[.string ⟨#[]⟩] w fun e w'=>e= .returned (.tuple #[.int .i64 (-1),.int .i64 0])∧Below w.heap.size w w':=by
 go_enter Tryz.func158,Tryz.ntmps158
 go_wp2
 go_ret2
 exact⟨rfl,Below.refl _ _⟩
theorem refNext_some (s:ByteArray) (w:World) (h0:0<s.size) (hsz:s.size≤9223372036854775807):
  Calls Tryz.prog 158 #[.string s] w fun e w'=>e= .returned (.tuple #[.int .i64 (nxL (strL s)).1,.int .i64 ((nxL (strL s)).2:Int)])∧Below w.heap.size w w':=by
 have hlen:=zaX s
 have HNE:Hid (strL s≠[]):=Lib.hid (fun e=>by rw[e]at hlen;simp at hlen;omega)
 have HL:=Lib.hid hlen
 have hz:((s.size:Int)==0)=false:=by rw[beq_eq_false_iff_ne];omega
 clear hlen
 go_enter Tryz.func158,Tryz.ntmps158
 go_wp2
 go_loopw[4] (fun v wr=> ∃(k:Nat) (K:Int),1≤k∧k≤5∧K=(k:Int)∧v= .int .i64 K∧NoneBelow (strL s) k∧Below w.heap.size w wr) (fun v _=>5-(intOf v).toNat)
 case atStart=>exact⟨1,1,by omega,by omega,rfl,rfl,fun q h1 h2 _=>by omega,Below.refl _ _⟩
 case round=>
  obtain⟨k,K,hk1,hk5,hK,rfl,hno,hbel⟩:=hrel
  have HNO:=Lib.hid hno
  have HB:=Lib.hid hbel
  have HK:=Lib.hid hK
  have hK1:1≤K:=by omega
  by_cases hin:K≤4∧K≤(s.size:Int)
  ·obtain⟨hK4,hKs⟩:=hin
   have hs0:=(s[0]'h0).toNat_lt
   have HG0:=Lib.hid (zaz s 0 h0)
   have h4:K=1∨K=2∨K=3∨K=4:=by omega
   obtain⟨c0,hcc⟩: ∃c0:Int,c0=(strL s).getD 0 0%refM k:=⟨_,rfl⟩
   have hc0:0≤c0∧c0≤255:=by
    rw[hcc,HG0.out];unfold refM;split<;>(try split)<;>(try split)<;>omega
   have HC0:=Lib.hid hcc
   have HA:=Lib.hid (accL_bd c0 (strL s) hc0)
   have HREF:Hid (refC (strL s) k=accL c0 (strL s) (k-1)):=Lib.hid (by rw[HC0.out];rfl)
   have hin2:k≤s.size:=by have:=HK.out;omega
   have hk4:k≤4:=by have:=HK.out;omega
   obtain⟨HSW,hsw'⟩:Hid (c0=if K=1 then((s[0]'h0).toNat:Int)else if K=2 then((s[0]'h0).toNat:Int)%32 else if K=3 then((s[0]'h0).toNat:Int)%16 else((s[0]'h0).toNat:Int)%8)∧
     ((K==2)=false∧(K==3)=false∧(K==4)=false∧K=1∨(K==2)=true∧K=2∨(K==2)=false∧(K==3)=true∧K=3∨(K==2)=false∧(K==3)=false∧(K==4)=true∧K=4):=by
    rcases h4 with e|e|e|e
    ·obtain rfl:k=1:=by omega
     exact⟨Lib.hid (by rw[hcc,HG0.out,if_pos e];show _%256=_;omega),.inl ⟨by rw[e];rfl,by rw[e];rfl,by rw[e];rfl,e⟩⟩
    ·obtain rfl:k=2:=by omega
     exact⟨Lib.hid (by rw[hcc,HG0.out,if_neg (by omega),if_pos e];rfl),.inr (.inl ⟨by rw[e];rfl,e⟩)⟩
    ·obtain rfl:k=3:=by omega
     exact⟨Lib.hid (by rw[hcc,HG0.out,if_neg (by omega),if_neg (by omega),if_pos e];rfl),.inr (.inr (.inl ⟨by rw[e];rfl,by rw[e];rfl,e⟩))⟩
    ·obtain rfl:k=4:=by omega
     exact⟨Lib.hid (by rw[hcc,HG0.out,if_neg (by omega),if_neg (by omega),if_neg (by omega)];rfl),.inr (.inr (.inr ⟨by rw[e];rfl,by rw[e];rfl,by rw[e];rfl,e⟩))⟩
   clear hno hbel hK h4 hc0 hcc
   rcases hsw' with⟨q2,q3,q4,hKK⟩|⟨q2,hKK⟩|⟨q2,q3,hKK⟩|⟨q2,q3,q4,hKK⟩
   all_goals
    have HKK:=Lib.hid hKK
    clear hKK
    go_wp2
    go_loop [5,6] (fun x i=> ∃j:Nat,j+1≤k∧i= .int .i64 ((j+1:Nat):Int)∧x= .int .i64 (accL c0 (strL s) j)) (fun _ i=>k-(intOf i).toNat)
    case atStart=>exact⟨0,by omega,rfl,by rw[accL,HSW.out,HKK.out];rfl⟩
    case round=>
     obtain⟨j,hj,rfl,rfl⟩:=hrel
     by_cases hlt:j+1<k
     ·have hltK:(j:Int)+1<K:=by have:=HK.out;omega
      have ha:=HA.out j
      have h64:=pow64 j (by omega)
      have ha2:accL c0 (strL s) j<140737488355328:=by omega
      obtain⟨ha1,_⟩:=ha
      have HN:Hid (accL c0 (strL s) (j+1)=accL c0 (strL s) j*64+((s[j+1]'(by omega)).toNat:Int)%64):=Lib.hid (by rw[accL,zaz s (j+1) (by omega)])
      obtain⟨x,hx⟩: ∃x,x=accL c0 (strL s) j:=⟨_,rfl⟩
      rw[←hx]at ha1 ha2 HN⊢
      have hu:=(s[j+1]'(by omega)).toNat_lt
      clear hx h64
      go_wp2
      go_round
      case rel=>exact⟨j+1,by omega,by go_num,by rw[HN.out]⟩
      case measure=>simp[intOf];omega
     ·have hltK: ¬(j:Int)+1<K:=by have:=HK.out;omega
      obtain rfl:k=j+1:=by omega
      have HP:=Lib.hid (fun W:World=>zia (accL c0 (strL s) j) W)
      rw[Nat.add_sub_cancel]at HREF
      have b0:(0:Int)≤K:=by omega
      have b2:K.toNat=j+1:=by have:=HK.out;omega
      by_cases hp:putL (accL c0 (strL s) j)=(strL s).take (j+1)
      ·have HR:Hid (nxL (strL s)=(accL c0 (strL s) j,j+1)):=Lib.hid (by
        have:=ref_hit (l:=strL s) (k:=j+1) (by omega) (by rw[HL.out];omega) (by rw[HREF.out];exact hp)
        rw[HREF.out]at this
        exact this)
       have heq:((toS (putL (accL c0 (strL s) j))).toList==(s.extract 0 (j+1)).toList)=true:=by
        rw[zdJ,decide_eq_true_eq,hp]
        exact zcJ (by rw[zbo ((zcj s).take _),zau,List.drop_zero])
       obtain⟨x,hx⟩: ∃x,x=accL c0 (strL s) j:=⟨_,rfl⟩
       rw[←hx]at heq HR HP⊢
       obtain⟨T,hT⟩: ∃T,T=toS (putL x):=⟨_,rfl⟩
       rw[←hT]at heq HP
       clear hp hx hT HREF
       go_wp2_with fail
       go_region_held3(fun W=>Below wr.heap.size wr W) (first|exact(Below.refl _ _).drew|exact Below.trans (by assumption) (hb.mono (Below.size (by assumption)))|go_keep)
        (first|(go_at_call 161;refine(HP.out _).mono ?_;rintro e w' ⟨rfl,hb⟩))
       have HW':=Lib.hid (‹Below wr.heap.size wr _›)
       clear b0 b2 hb
       go_wp2_with fail
       go_ret2
       rw[HR.out,HK.out]
       exact⟨rfl,HB.out.trans (HW'.out.mono HB.out.size)⟩
      ·have HNX:Hid (NoneBelow (strL s) (j+1+1)):=Lib.hid (HNO.out.step (by rw[HREF.out];exact hp))
       have heq:((toS (putL (accL c0 (strL s) j))).toList==(s.extract 0 (j+1)).toList)=false:=by
        rw[zdJ,decide_eq_false_iff_not]
        intro e
        have e2:=(eq_toS (zdh _)).1 e.symm
        rw[zau,List.drop_zero]at e2
        exact hp e2.symm
       obtain⟨x,hx⟩: ∃x,x=accL c0 (strL s) j:=⟨_,rfl⟩
       rw[←hx]at heq HP⊢
       obtain⟨T,hT⟩: ∃T,T=toS (putL x):=⟨_,rfl⟩
       rw[←hT]at heq HP
       clear hp hx hT HREF
       go_wp2_with fail
       go_region_held3(fun W=>Below wr.heap.size wr W) (first|exact(Below.refl _ _).drew|exact Below.trans (by assumption) (hb.mono (Below.size (by assumption)))|go_keep)
        (first|(go_at_call 161;refine(HP.out _).mono ?_;rintro e w' ⟨rfl,hb⟩))
       have HW':=Lib.hid (‹Below wr.heap.size wr _›)
       clear b0 b2 hb
       go_wp2_with fail
       go_roundw
       case rel=>exact⟨j+1+1,K+1,by omega,by omega,by have:=HK.out;omega,rfl,HNX.out,HB.out.trans (HW'.out.mono HB.out.size)⟩
       case measure=>simp[intOf];omega
  ·have HR:Hid (nxL (strL s)=(-1,1)):=Lib.hid (ref_miss HNE.out (fun q h1 h2 h3=>HNO.out q h1 (by have:=HK.out;have:=HL.out;omega) h3))
   have hd: ¬(K≤4∧K≤(s.size:Int)):=hin
   by_cases h4:K≤4
   ·have h5: ¬K≤(s.size:Int):=fun h=>hin ⟨h4,h⟩
    clear hin hd hno hbel hK
    go_wp2
    go_ret2
    rw[HR.out]
    exact⟨rfl,HB.out⟩
   ·clear hin hd hno hbel hK
    go_wp2
    go_ret2
    rw[HR.out]
    exact⟨rfl,HB.out⟩
theorem refNext_any (s:ByteArray) (w:World) (hsz:s.size≤9223372036854775807):
  Calls Tryz.prog 158 #[.string s] w fun e w'=>e= .returned (.tuple #[.int .i64 (nxL (strL s)).1,.int .i64 ((nxL (strL s)).2:Int)])∧Below w.heap.size w w':=by
 rcases Nat.eq_zero_or_pos s.size with h0|h0
 ·have e:s=⟨#[]⟩:=zcJ (by rw[List.eq_nil_of_length_eq_zero ((zaX s).trans h0)];rfl)
  subst e
  exact zne w
 ·exact refNext_some s w h0 hsz
theorem zhf (s:ByteArray) (w:World) (hs:s.size≤9223372036854775807) (h45:(strL s).getD 0 0≠45):
  Calls Tryz.prog 156 #[.string s] w fun e w'=>e= .returned (.bool (zbe (strL s)))∧w=w':=by
 have hlen:=zaX s
 have HF:Hid (zbe (strL s)=true↔AllD (strL s)∧((strL s).length=1∨1<(strL s).length∧(strL s).getD 0 0≠48)):=Lib.hid (zdl h45)
 have h0: ∀h:0<s.size,(((s[0]'h).toNat:Int)==45)=false:=fun h=>by
  rw[beq_eq_false_iff_ne,←zaz s 0 h];exact h45
 by_cases hz:0<s.size
 ·have h0':=h0 hz
  have HG0:=Lib.hid (zaz s 0 hz)
  have HL:=Lib.hid hlen
  clear h0 h45 hlen
  go_enter Tryz.func156,Tryz.ntmps156
  go_wp2
  go_loop [3] (fun i=> ∃k:Nat,k≤s.size∧i= .int .i64 (k:Int)∧ ∀j,j<k→48≤(strL s).getD j 0∧(strL s).getD j 0≤57) (fun i=>s.size-(intOf i).toNat)
  case atStart=>exact⟨0,by omega,rfl,fun j hj=>by omega⟩
  case round=>
   obtain⟨k,hk,rfl,hall⟩:=hrel
   have HA:=Lib.hid hall
   clear hall
   by_cases hlt:k<s.size
   ·have HG:=Lib.hid (zaz s k hlt)
    by_cases hd:48≤(strL s).getD k 0∧(strL s).getD k 0≤57
    ·obtain⟨hd1,hd2⟩:=hd
     have HD:=Lib.hid (And.intro hd1 hd2)
     rw[HG.out]at hd1 hd2
     go_wp2
     go_round
     case rel=>exact⟨k+1,by omega,by go_num,fun j hj=>by
      rcases Nat.lt_or_ge j k with h|h
      ·exact HA.out j h
      ·obtain rfl:j=k:=by omega
       exact HD.out⟩
     case measure=>simp[intOf];omega
    ·have HR:Hid (zbe (strL s)=false):=Lib.hid (by
      rw[←Bool.not_eq_true,HF.out]
      rintro⟨h,_⟩
      exact hd (h.at k (by rw[HL.out];exact hlt)))
     rw[HG.out]at hd
     by_cases hd1:((s[k]'hlt).toNat:Int)<48
     ·clear hd
      go_wp2
      go_ret
      rw[HR.out]
      exact⟨rfl,rfl⟩
     ·have hd2:57<((s[k]'hlt).toNat:Int):=by omega
      clear hd
      go_wp2
      go_ret
      rw[HR.out]
      exact⟨rfl,rfl⟩
   ·obtain rfl:k=s.size:=by omega
    have HALL:Hid (AllD (strL s)):=Lib.hid (.of_at fun j hj=>HA.out j (by rw[HL.out]at hj;exact hj))
    by_cases h1:s.size=1
    ·have HR:Hid (zbe (strL s)=true):=Lib.hid (HF.out.2 ⟨HALL.out,.inl (by rw[HL.out,h1])⟩)
     have h1b:((s.size:Int)==1)=true:=by rw[beq_iff_eq];omega
     have H1:=Lib.hid h1
     clear h1
     go_wp2
     go_ret
     rw[HR.out]
     exact⟨rfl,rfl⟩
    ·have h1b:((s.size:Int)==1)=false:=by rw[beq_eq_false_iff_ne];omega
     have h1c:(1:Int)<(s.size:Int):=by omega
     by_cases h48:(strL s).getD 0 0=48
     ·have HR:Hid (zbe (strL s)=false):=Lib.hid (by
       rw[←Bool.not_eq_true,HF.out]
       rintro⟨_,h|⟨_,h⟩⟩
       ·rw[HL.out]at h;exact h1 h
       ·exact h h48)
      have hb:(((s[0]'hz).toNat:Int)!=48)=false:=by rw[←HG0.out,h48];rfl
      clear h48 h1
      go_wp2
      go_ret
      rw[HR.out]
      exact⟨rfl,rfl⟩
     ·have HR:Hid (zbe (strL s)=true):=Lib.hid (HF.out.2 ⟨HALL.out,.inr ⟨by rw[HL.out];omega,h48⟩⟩)
      have hb:(((s[0]'hz).toNat:Int)!=48)=true:=by rw[←HG0.out,bne_iff_ne];exact h48
      clear h48 h1
      go_wp2
      go_ret
      rw[HR.out]
      exact⟨rfl,rfl⟩
 ·have e:s=⟨#[]⟩:=zcJ (by rw[List.eq_nil_of_length_eq_zero (hlen.trans (by omega))];rfl)
  subst e
  clear hlen HF h0 h45 hs hz
  go_enter Tryz.func156,Tryz.ntmps156
  go_wp2
  refine wp_loop_rounds 1 ?_
  rw[rounds_succ]
  go_wp2
  go_ret
  exact⟨rfl,rfl⟩
theorem zdg (s:ByteArray) (w:World) (hs:s.size≤9223372036854775807):
  Calls Tryz.prog 156 #[.string s] w fun e w'=>e= .returned (.bool (zbe (strL s)))∧w=w':=by
 by_cases h45:(strL s).getD 0 0=45
 ·have hlen:=zaX s
  have hz:0<s.size:=by
   rcases Nat.eq_zero_or_pos s.size with h|h
   ·rw[List.eq_nil_of_length_eq_zero (hlen.trans h)]at h45;simp at h45
   ·exact h
  have h0:(((s[0]'hz).toNat:Int)==45)=true:=by rw[beq_iff_eq,←zaz s 0 hz];exact h45
  have hex:strL (s.extract 1 s.size)=(strL s).drop 1:=by rw[zau,List.take_of_length_le (by omega)]
  have hl1:((strL s).drop 1).getD 0 0=(strL s).getD 1 0:=by simp[List.getD_eq_getElem?_getD]
  have hcons:strL s=45::(strL s).drop 1:=by
   cases hl:strL s with
   |nil=>rw[hl]at h45;simp at h45
   |cons c r=>rw[hl]at h45;rw[List.getD_cons_zero]at h45;rw[h45];rfl
  have hd:=zmd ((strL s).drop 1)
  rw[←hcons,hl1]at hd
  have HD:=Lib.hid hd
  by_cases h1:1<s.size
  ·have HG1:=Lib.hid (zaz s 1 h1)
   have hne:(strL s).drop 1≠[]:=fun e=>by
    have:=congrArg List.length e
    rw[List.length_drop,hlen]at this
    simp at this;omega
   have HNE:=Lib.hid hne
   by_cases h48:(strL s).getD 1 0=48
   ·have HR:Hid (zbe (strL s)=false):=Lib.hid (by rw[←Bool.not_eq_true,HD.out];rintro⟨_,h,_⟩;exact h h48)
    have hb:(((s[1]'h1).toNat:Int)!=48)=false:=by rw[←HG1.out,h48];rfl
    clear hd hne h48 hl1 hex hcons h45 hlen
    go_enter Tryz.func156,Tryz.ntmps156
    go_wp2
    go_ret
    rw[HR.out]
    exact⟨rfl,rfl⟩
   ·have hb:(((s[1]'h1).toNat:Int)!=48)=true:=by rw[←HG1.out,bne_iff_ne];exact h48
    by_cases h451:(strL s).getD 1 0=45
    ·have HR:Hid (zbe (strL s)=false):=Lib.hid (by rw[←Bool.not_eq_true,HD.out];rintro⟨_,_,h,_⟩;exact h h451)
     have hb2:(((s[1]'h1).toNat:Int)!=45)=false:=by rw[←HG1.out,h451];rfl
     clear hd hne h48 h451 hl1 hex hcons h45 hlen
     go_enter Tryz.func156,Tryz.ntmps156
     go_wp2
     go_ret
     rw[HR.out]
     exact⟨rfl,rfl⟩
    ·have hb2:(((s[1]'h1).toNat:Int)!=45)=true:=by rw[←HG1.out,bne_iff_ne];exact h451
     have HC:=Lib.hid (zhf (s.extract 1 s.size) w (by rw[←zaX,hex,List.length_drop];omega) (by rw[hex,hl1];exact h451))
     rw[hex]at HC
     have HR:Hid (zbe ((strL s).drop 1)=zbe (strL s)):=Lib.hid (by
      rw[Bool.eq_iff_iff,HD.out]
      exact⟨fun h=>⟨HNE.out,h48,h451,h⟩,fun h=>h.2.2.2⟩)
     rw[HR.out]at HC
     clear hd hne h48 h451 hl1 hex hcons h45 hlen
     go_enter Tryz.func156,Tryz.ntmps156
     go_wp2_with(go_at_call 156;(with_reducible refine HC.out.mono ?_);rintro e w' ⟨rfl,rfl⟩)
     go_ret
     exact⟨rfl,rfl⟩
  ·have h1':s.size=1:=by omega
   have HR:Hid (zbe (strL s)=false):=Lib.hid (by
    rw[←Bool.not_eq_true,HD.out]
    rintro⟨h,_⟩
    exact h (List.drop_eq_nil_of_le (by omega)))
   have hc: ¬(1:Int)<(s.size:Int):=by omega
   clear hd hl1 hex hcons h45 hlen h1'
   go_enter Tryz.func156,Tryz.ntmps156
   go_wp2
   go_ret
   rw[HR.out]
   exact⟨rfl,rfl⟩
 ·exact zhf s w hs h45
theorem zfK (s t:ByteArray) (w:World):
  Calls Tryz.prog 157 #[.string s,.string t] w fun e w'=>e= .returned (.bool (lessL (strL s) (strL t)))∧w=w':=by
 have h1:=zaX s
 have h2:=zaX t
 by_cases h:s.size=t.size
 ·have hb:((s.size:Int)!=(t.size:Int))=false:=by rw[h];simp
  have HR:Hid (lessL (strL s) (strL t)=Op.bytesLess s.toList t.toList):=Lib.hid (by
   unfold lessL;rw[if_neg (by rw[h1,h2,h];simp),zoV])
  obtain⟨b,hbb⟩: ∃b,b=Op.bytesLess s.toList t.toList:=⟨_,rfl⟩
  rw[HR.out,←hbb]
  have HBB:=Lib.hid hbb
  clear h1 h2 h hbb
  go_enter Tryz.func157,Tryz.ntmps157
  go_wp2
  go_ret
  rw[HBB.out]
  exact⟨rfl,rfl⟩
 ·have hb:((s.size:Int)!=(t.size:Int))=true:=by rw[bne_iff_ne];omega
  have HR:Hid (lessL (strL s) (strL t)=decide (s.size<t.size)):=Lib.hid (by
   unfold lessL;rw[if_pos (by rw[h1,h2];exact h),h1,h2])
  rw[HR.out]
  clear h1 h2 h
  go_enter Tryz.func157,Tryz.ntmps157
  go_wp2
  go_ret
  exact⟨rfl,rfl⟩
theorem zjz (s:ByteArray) (w:World) (hs:s.size≤9223372036854775806):
  Calls Tryz.prog 128 #[.string s] w fun e w'=>e= .returned (.int .i64 (zat (strL s):Int))∧w=w':=by
 have HL:=Lib.hid (zaX s)
 have HF:=Lib.hid (fun(k:Nat) (hk:k≤s.size) (W:World)=>zdg (s.extract 0 k) W (by rw[←zaX,zau,List.drop_zero,List.length_take,zaX];omega))
 have HE:=Lib.hid (fun(k:Nat)=>show strL (s.extract 0 k)=(strL s).take k by rw[zau,List.drop_zero])
 go_enter Tryz.func128,Tryz.ntmps128
 go_wp2
 go_loop [3,4] (fun b n=> ∃k:Nat,k≤s.size∧n= .int .i64 ((k+1:Nat):Int)∧b= .int .i64 (zat ((strL s).take k):Int)∧AllD (((strL s).take k).drop 1)) (fun _ n=>s.size+1-(intOf n).toNat)
 case atStart=>exact⟨0,by omega,rfl,rfl,fun x hx=>by simp at hx⟩
 case round=>
  obtain⟨k,hk,rfl,rfl,hall⟩:=hrel
  have HA:=Lib.hid hall
  clear hall
  by_cases hlt:k<s.size
  ·have hnext: ∀(hd:k=0∨48≤(strL s).getD k 0∧(strL s).getD k 0≤57),AllD (((strL s).take (k+1)).drop 1):=fun hd x hx=>by
    rw[List.take_succ_eq_append_getElem (by rw[HL.out];exact hlt)]at hx
    rcases Nat.eq_zero_or_pos k with h0|h0
    ·subst h0;simp at hx
    ·rw[List.drop_append_of_le_length (by rw[List.length_take,HL.out];omega)]at hx
     rcases List.mem_append.1 hx with hx|hx
     ·exact HA.out x hx
     ·have h1:=hd.resolve_left (by omega)
      rw[List.getD_eq_getElem?_getD,List.getElem?_eq_getElem (by rw[HL.out];exact hlt)]at h1
      simp at hx
      subst hx
      exact h1
   have HNX:=Lib.hid hnext
   have HST:=Lib.hid (fun hd=>leadL_step (l:=strL s) (k:=k) (by rw[HL.out];exact hlt) (hnext hd))
   have HFK:=Lib.hid (HF.out (k+1) (by omega))
   rw[HE.out]at HFK
   have HG:=Lib.hid (zaz s k hlt)
   have hlt':(k:Int)+1≤(s.size:Int):=by omega
   clear hnext
   by_cases h0:k=0
   ·have HS1:Hid (zat ((strL s).take (k+1))=if zbe ((strL s).take (k+1))=true then k+1 else zat ((strL s).take k)):=Lib.hid (HST.out (.inl h0))
    have HN1:=Lib.hid (HNX.out (.inl h0))
    have hk1: ¬(1:Int)<(k:Int)+1:=by omega
    clear h0
    obtain⟨f,hf⟩: ∃f,f=zbe ((strL s).take (k+1)):=⟨_,rfl⟩
    rw[←hf]at HFK HS1
    clear hf
    cases f
    ·have HB:Hid (zat ((strL s).take (k+1))=zat ((strL s).take k)):=Lib.hid (by rw[HS1.out,if_neg (by decide)])
     go_wp2_with(go_at_call 156;(with_reducible refine(HFK.out _).mono ?_);rintro e w' ⟨rfl,rfl⟩)
     go_round
     case rel=>exact⟨k+1,by omega,by go_num,by rw[HB.out],HN1.out⟩
     case measure=>simp[intOf];omega
    ·have HB:Hid (zat ((strL s).take (k+1))=k+1):=Lib.hid (by rw[HS1.out,if_pos rfl])
     go_wp2_with(go_at_call 156;(with_reducible refine(HFK.out _).mono ?_);rintro e w' ⟨rfl,rfl⟩)
     go_round
     case rel=>exact⟨k+1,by omega,by go_num,by rw[HB.out];go_num,HN1.out⟩
     case measure=>simp[intOf];omega
   ·have hk1:(1:Int)<(k:Int)+1:=by omega
    by_cases hd:48≤(strL s).getD k 0∧(strL s).getD k 0≤57
    ·have HS1:Hid (zat ((strL s).take (k+1))=if zbe ((strL s).take (k+1))=true then k+1 else zat ((strL s).take k)):=Lib.hid (HST.out (.inr hd))
     have HN1:=Lib.hid (HNX.out (.inr hd))
     obtain⟨hd1,hd2⟩:=hd
     rw[HG.out]at hd1 hd2
     clear h0
     obtain⟨f,hf⟩: ∃f,f=zbe ((strL s).take (k+1)):=⟨_,rfl⟩
     rw[←hf]at HFK HS1
     clear hf
     cases f
     ·have HB:Hid (zat ((strL s).take (k+1))=zat ((strL s).take k)):=Lib.hid (by rw[HS1.out,if_neg (by decide)])
      go_wp2_with(go_at_call 156;(with_reducible refine(HFK.out _).mono ?_);rintro e w' ⟨rfl,rfl⟩)
      go_round
      case rel=>exact⟨k+1,by omega,by go_num,by rw[HB.out],HN1.out⟩
      case measure=>simp[intOf];omega
     ·have HB:Hid (zat ((strL s).take (k+1))=k+1):=Lib.hid (by rw[HS1.out,if_pos rfl])
      go_wp2_with(go_at_call 156;(with_reducible refine(HFK.out _).mono ?_);rintro e w' ⟨rfl,rfl⟩)
      go_round
      case rel=>exact⟨k+1,by omega,by go_num,by rw[HB.out];go_num,HN1.out⟩
      case measure=>simp[intOf];omega
    ·have HR:Hid (zat ((strL s).take k)=zat (strL s)):=Lib.hid (leadL_break (by rw[HL.out];exact hlt) (by omega) HA.out hd).symm
     rw[HG.out]at hd
     by_cases hd1:((s[k]'hlt).toNat:Int)<48
     ·clear hd h0
      go_wp2
      go_ret
      rw[HR.out]
      exact⟨rfl,rfl⟩
     ·have hd2:57<((s[k]'hlt).toNat:Int):=by omega
      clear hd h0
      go_wp2
      go_ret
      rw[HR.out]
      exact⟨rfl,rfl⟩
  ·obtain rfl:k=s.size:=by omega
   have HR:Hid (zat ((strL s).take s.size)=zat (strL s)):=Lib.hid (by rw[List.take_of_length_le (by rw[HL.out];exact Nat.le_refl _)])
   go_wp2
   go_ret
   rw[HR.out]
   exact⟨rfl,rfl⟩
def RdOut (z least most:Int):Value:=if least≤z∧z≤most then .tuple #[.int .i64 z,.int .i64 0,.int .i64 (-1)]else .tuple #[.int .i64 0,.int .i64 41,.int .i64 (-1)]
theorem zjg {z least most:Int} (h:least≤z∧z≤most):RdOut z least most= .tuple #[.int .i64 z,.int .i64 0,.int .i64 (-1)]:=if_pos h
theorem zew {z least most:Int} (h: ¬(least≤z∧z≤most)):RdOut z least most= .tuple #[.int .i64 0,.int .i64 41,.int .i64 (-1)]:=if_neg h
theorem zna (s:ByteArray) (least most:Int) (w:World) (hs:s.size≤1000000000) (hf:zbe (strL s)=false):
  Calls Tryz.prog 129 #[.string s,.int .i64 least,.int .i64 most] w fun e w'=>e= .returned (.tuple #[.int .i64 0,.int .i64 40,.int .i64 (zat (strL s):Int)])∧w=w':=by
 have HFM:=Lib.hid (fun W:World=>zdg s W (by omega))
 rw[hf]at HFM
 have HLD:=Lib.hid (fun W:World=>zjz s W (by omega))
 clear hf
 go_enter Tryz.func129,Tryz.ntmps129
 go_wp2_with(first
  |(go_at_call 156;(with_reducible refine(HFM.out _).mono ?_);rintro e w' ⟨rfl,rfl⟩)
  |(go_at_call 128;(with_reducible refine(HLD.out _).mono ?_);rintro e w' ⟨rfl,rfl⟩))
 refine bodyPost_ret (v:= .tuple #[.int .i64 0,.int .i64 40,.int .i64 (zat (strL s):Int)]) (by simp[results,Tryz.results129,go_sem]) rfl ⟨rfl,rfl⟩
theorem zhd (s:ByteArray) (least most:Int) (w:World) (hs:s.size≤1000000000) (hf:zbe (strL s)=true) (h45:(strL s).getD 0 0≠45) (hv:9223372036854775807<valL (strL s)):
  Calls Tryz.prog 129 #[.string s,.int .i64 least,.int .i64 most] w fun e w'=>e= .returned (.tuple #[.int .i64 0,.int .i64 41,.int .i64 (-1)])∧w=w':=by
 have hlen:=zaX s
 have hz:0<s.size:=by
  rcases Nat.eq_zero_or_pos s.size with h|h
  ·rw[zcJ (a:=s) (b:=⟨#[]⟩) (by rw[List.eq_nil_of_length_eq_zero (hlen.trans h)];rfl)]at hf
   exact absurd hf (by decide)
  ·exact h
 have h0:(((s[0]'hz).toNat:Int)==45)=false:=by rw[beq_eq_false_iff_ne,←zaz s 0 hz];exact h45
 have hparts:=zdm hf
 obtain⟨hall,hfirst⟩:AllD (strL s)∧(49≤(strL s).getD 0 0∨(strL s).length=1):=by
  rcases hparts with⟨h1,h2,h3,_⟩|⟨h1,h2,_,h3⟩
  ·exact absurd h1 h45
  ·exact⟨h2,h3⟩
 have HFM:=Lib.hid (fun W:World=>zdg s W (by omega))
 rw[hf]at HFM
 have hex:strL s=(strL s):=rfl
 have HLS:=Lib.hid (fun W:World=>zfK ⟨#[57,50,50,51,51,55,50,48,51,54,56,53,52,55,55,53,56,48,55]⟩ s W)
 rw[hex,zhr (a:=strL ⟨#[57,50,50,51,51,55,50,48,51,54,56,53,52,55,55,53,56,48,55]⟩) (by unfold AllD;decide) hall (by decide) hfirst (by decide),show valL (strL ⟨#[57,50,50,51,51,55,50,48,51,54,56,53,52,55,55,53,56,48,55]⟩)=9223372036854775807 by decide]at HLS
 rw[decide_eq_true hv]at HLS
 clear hf hlen h45 hparts hall hfirst hex hv
 go_enter Tryz.func129,Tryz.ntmps129
 go_wp2_with(first
  |(go_at_call 156;(with_reducible refine(HFM.out _).mono ?_);rintro e w' ⟨rfl,rfl⟩)
  |(go_at_call 157;(with_reducible refine(HLS.out _).mono ?_);rintro e w' ⟨rfl,rfl⟩))
 refine bodyPost_ret (v:= .tuple #[.int .i64 0,.int .i64 41,.int .i64 (-1)]) (by simp[results,Tryz.results129,go_sem]) rfl ⟨rfl,rfl⟩
theorem ziu (s:ByteArray) (least most:Int) (w:World) (hs:s.size≤1000000000) (hf:zbe (strL s)=true) (h45:(strL s).getD 0 0≠45) (hv:valL (strL s)≤9223372036854775807):
  Calls Tryz.prog 129 #[.string s,.int .i64 least,.int .i64 most] w fun e w'=>e= .returned (RdOut (valL (strL s):Int) least most)∧w=w':=by
 have hlen:=zaX s
 have hz:0<s.size:=by
  rcases Nat.eq_zero_or_pos s.size with h|h
  ·rw[zcJ (a:=s) (b:=⟨#[]⟩) (by rw[List.eq_nil_of_length_eq_zero (hlen.trans h)];rfl)]at hf
   exact absurd hf (by decide)
  ·exact h
 have h0:(((s[0]'hz).toNat:Int)==45)=false:=by rw[beq_eq_false_iff_ne,←zaz s 0 hz];exact h45
 have hparts:=zdm hf
 obtain⟨hall,hfirst⟩:AllD (strL s)∧(49≤(strL s).getD 0 0∨(strL s).length=1):=by
  rcases hparts with⟨h1,h2,h3,_⟩|⟨h1,h2,_,h3⟩
  ·exact absurd h1 h45
  ·exact⟨h2,h3⟩
 have HFM:=Lib.hid (fun W:World=>zdg s W (by omega))
 rw[hf]at HFM
 have hex:strL s=(strL s):=rfl
 have HLS:=Lib.hid (fun W:World=>zfK ⟨#[57,50,50,51,51,55,50,48,51,54,56,53,52,55,55,53,56,48,55]⟩ s W)
 rw[hex,zhr (a:=strL ⟨#[57,50,50,51,51,55,50,48,51,54,56,53,52,55,55,53,56,48,55]⟩) (by unfold AllD;decide) hall (by decide) hfirst (by decide),show valL (strL ⟨#[57,50,50,51,51,55,50,48,51,54,56,53,52,55,55,53,56,48,55]⟩)=9223372036854775807 by decide]at HLS
 rw[decide_eq_false (by omega)]at HLS
 have hdl:s.size=(strL s).length:=by rw[←hex,zaX]
 have hdn:(strL s).length≤1000000000:=by omega
 have HALL:=Lib.hid hall
 have HV:=Lib.hid (fun(k:Nat)=>Nat.le_trans (zfn (strL s) k) hv)
 have HG:=Lib.hid (fun(k:Nat) (hk:k<s.size)=>zaz s k hk)
 rw[hex]at HG
 have HST:=Lib.hid (fun(k:Nat) (hk:k<(strL s).length)=>show valL ((strL s).take (k+1))=valL ((strL s).take k)*10+((strL s).getD k 0-48).toNat by
  rw[List.take_succ_eq_append_getElem hk,zeo,List.getD_eq_getElem?_getD,List.getElem?_eq_getElem hk];rfl)
 have HTK:Hid ((strL s).take (strL s).length=(strL s)):=Lib.hid (List.take_length)
 obtain⟨l,hl⟩: ∃l,l=(strL s):=⟨_,rfl⟩
 rw[←hl]at HV HG HST HTK HALL hdl hdn⊢
 have hs1:(1:Int)≤(s.size:Int):=by omega
 have HSZ:=Lib.hid hdl
 have hszN:s.size≤1000000000:=by rw[hdl];exact hdn
 clear hf hlen h45 hparts hall hfirst hex hv hl hdl hdn
 go_enter Tryz.func129,Tryz.ntmps129
 go_wp2_with(first
  |(go_at_call 156;(with_reducible refine(HFM.out _).mono ?_);rintro e w' ⟨rfl,rfl⟩)
  |(go_at_call 157;(with_reducible refine(HLS.out _).mono ?_);rintro e w' ⟨rfl,rfl⟩))
 go_loop [12,13] (fun n i=> ∃k:Nat,k≤l.length∧i= .int .i64 (k:Int)∧n= .int .i64 (valL (l.take k):Int)) (fun _ i=>l.length-(intOf i).toNat)
 case atStart=>exact⟨0,by omega,rfl,rfl⟩
 case round=>
  obtain⟨k,hk,rfl,rfl⟩:=hrel
  by_cases hkl:k<l.length
  ·have hlt:k<s.size:=by rw[HSZ.out];exact hkl
   have hd:=HALL.out.at k hkl
   have hst:=HST.out k hkl
   have hv1:=HV.out (k+1)
   have hv0:=HV.out k
   rw[HG.out k hlt]at hd hst
   have HN:Hid ((valL (l.take (k+1)):Int)=(valL (l.take k):Int)*10+((((s[k]'hlt).toNat:Int))-48)):=Lib.hid (by rw[hst];omega)
   have hub:(valL (l.take k):Int)*10+((((s[k]'hlt).toNat:Int))-48)≤9223372036854775807:=by omega
   obtain⟨v,hvv⟩: ∃v,v=valL (l.take k):=⟨_,rfl⟩
   rw[←hvv]at hub hv0 HN⊢
   obtain⟨hd1,hd2⟩:=hd
   clear hst hvv hv1
   go_wp2
   go_round
   case rel=>exact⟨k+1,by omega,by go_num,by rw[HN.out]⟩
   case measure=>simp[intOf];omega
  ·obtain rfl:k=l.length:=by omega
   have hge: ¬l.length<s.size:=by rw[HSZ.out];omega
   have hv0:=HV.out l.length
   rw[HTK.out]at hv0⊢
   obtain⟨v,hvv⟩: ∃v,v=valL l:=⟨_,rfl⟩
   have HSZ2:Hid (((s.size:Nat):Int)=(l.length:Int)):=Lib.hid (by rw[HSZ.out])
   have hgi: ¬(l.length:Int)<(s.size:Int):=by omega
   rw[←hvv]at hv0⊢
   have HVV:=Lib.hid hvv
   clear hvv hkl
   by_cases h1:(v:Int)<least
   ·go_wp2
    refine bodyPost_ret (v:= .tuple #[.int .i64 0,.int .i64 41,.int .i64 (-1)]) (by simp[results,Tryz.results129,go_sem]) rfl ⟨?_,rfl⟩
    rw[←HVV.out,zew (by omega)]
   ·by_cases h2:most<(v:Int)
    ·go_wp2
     refine bodyPost_ret (v:= .tuple #[.int .i64 0,.int .i64 41,.int .i64 (-1)]) (by simp[results,Tryz.results129,go_sem]) rfl ⟨?_,rfl⟩
     rw[←HVV.out,zew (by omega)]
    ·go_wp2
     refine bodyPost_ret (v:= .tuple #[.int .i64 (v:Int),.int .i64 0,.int .i64 (-1)]) (by simp[results,Tryz.results129,go_sem]) rfl ⟨?_,rfl⟩
     rw[←HVV.out,zjg (by omega)]
theorem ziY (s:ByteArray) (least most:Int) (w:World) (hs:s.size≤1000000000) (hf:zbe (strL s)=true) (h45:(strL s).getD 0 0=45) (hv:9223372036854775808<valL ((strL s).drop 1)):
  Calls Tryz.prog 129 #[.string s,.int .i64 least,.int .i64 most] w fun e w'=>e= .returned (.tuple #[.int .i64 0,.int .i64 41,.int .i64 (-1)])∧w=w':=by
 have hlen:=zaX s
 have hz:0<s.size:=by
  rcases Nat.eq_zero_or_pos s.size with h|h
  ·rw[zcJ (a:=s) (b:=⟨#[]⟩) (by rw[List.eq_nil_of_length_eq_zero (hlen.trans h)];rfl)]at hf
   exact absurd hf (by decide)
  ·exact h
 have h0:(((s[0]'hz).toNat:Int)==45)=true:=by rw[beq_iff_eq,←zaz s 0 hz];exact h45
 have hparts:=zdm hf
 obtain⟨hall,hfirst⟩:AllD ((strL s).drop 1)∧(49≤((strL s).drop 1).getD 0 0∨((strL s).drop 1).length=1):=by
  rcases hparts with⟨h1,h2,h3,_⟩|⟨h1,h2,_,h3⟩
  ·exact⟨h2,.inl h3⟩
  ·exact absurd h45 h1
 have HFM:=Lib.hid (fun W:World=>zdg s W (by omega))
 rw[hf]at HFM
 have hex:strL (s.extract 1 s.size)=((strL s).drop 1):=by rw[zau,List.take_of_length_le (by omega)]
 have HLS:=Lib.hid (fun W:World=>zfK ⟨#[57,50,50,51,51,55,50,48,51,54,56,53,52,55,55,53,56,48,56]⟩ (s.extract 1 s.size) W)
 rw[hex,zhr (a:=strL ⟨#[57,50,50,51,51,55,50,48,51,54,56,53,52,55,55,53,56,48,56]⟩) (by unfold AllD;decide) hall (by decide) hfirst (by decide),show valL (strL ⟨#[57,50,50,51,51,55,50,48,51,54,56,53,52,55,55,53,56,48,56]⟩)=9223372036854775808 by decide]at HLS
 rw[decide_eq_true hv]at HLS
 clear hf hlen h45 hparts hall hfirst hex hv
 go_enter Tryz.func129,Tryz.ntmps129
 go_wp2_with(first
  |(go_at_call 156;(with_reducible refine(HFM.out _).mono ?_);rintro e w' ⟨rfl,rfl⟩)
  |(go_at_call 157;(with_reducible refine(HLS.out _).mono ?_);rintro e w' ⟨rfl,rfl⟩))
 refine bodyPost_ret (v:= .tuple #[.int .i64 0,.int .i64 41,.int .i64 (-1)]) (by simp[results,Tryz.results129,go_sem]) rfl ⟨rfl,rfl⟩
theorem zjy (s:ByteArray) (least most:Int) (w:World) (hs:s.size≤1000000000) (hf:zbe (strL s)=true) (h45:(strL s).getD 0 0=45) (hv:valL ((strL s).drop 1)≤9223372036854775808):
  Calls Tryz.prog 129 #[.string s,.int .i64 least,.int .i64 most] w fun e w'=>e= .returned (RdOut (-(valL ((strL s).drop 1):Int)) least most)∧w=w':=by
 have hlen:=zaX s
 have hz:0<s.size:=by
  rcases Nat.eq_zero_or_pos s.size with h|h
  ·rw[zcJ (a:=s) (b:=⟨#[]⟩) (by rw[List.eq_nil_of_length_eq_zero (hlen.trans h)];rfl)]at hf
   exact absurd hf (by decide)
  ·exact h
 have h0:(((s[0]'hz).toNat:Int)==45)=true:=by rw[beq_iff_eq,←zaz s 0 hz];exact h45
 have hparts:=zdm hf
 obtain⟨hall,hfirst⟩:AllD ((strL s).drop 1)∧(49≤((strL s).drop 1).getD 0 0∨((strL s).drop 1).length=1):=by
  rcases hparts with⟨h1,h2,h3,_⟩|⟨h1,h2,_,h3⟩
  ·exact⟨h2,.inl h3⟩
  ·exact absurd h45 h1
 have HFM:=Lib.hid (fun W:World=>zdg s W (by omega))
 rw[hf]at HFM
 have hex:strL (s.extract 1 s.size)=((strL s).drop 1):=by rw[zau,List.take_of_length_le (by omega)]
 have HLS:=Lib.hid (fun W:World=>zfK ⟨#[57,50,50,51,51,55,50,48,51,54,56,53,52,55,55,53,56,48,56]⟩ (s.extract 1 s.size) W)
 rw[hex,zhr (a:=strL ⟨#[57,50,50,51,51,55,50,48,51,54,56,53,52,55,55,53,56,48,56]⟩) (by unfold AllD;decide) hall (by decide) hfirst (by decide),show valL (strL ⟨#[57,50,50,51,51,55,50,48,51,54,56,53,52,55,55,53,56,48,56]⟩)=9223372036854775808 by decide]at HLS
 rw[decide_eq_false (by omega)]at HLS
 have hdl:(s.extract 1 s.size).size=((strL s).drop 1).length:=by rw[←hex,zaX]
 have hdn:((strL s).drop 1).length≤1000000000:=by rw[List.length_drop];omega
 have HALL:=Lib.hid hall
 have HV:=Lib.hid (fun(k:Nat)=>Nat.le_trans (zfn ((strL s).drop 1) k) hv)
 have HG:=Lib.hid (fun(k:Nat) (hk:k<(s.extract 1 s.size).size)=>zaz (s.extract 1 s.size) k hk)
 rw[hex]at HG
 have HST:=Lib.hid (fun(k:Nat) (hk:k<((strL s).drop 1).length)=>show valL (((strL s).drop 1).take (k+1))=valL (((strL s).drop 1).take k)*10+(((strL s).drop 1).getD k 0-48).toNat by
  rw[List.take_succ_eq_append_getElem hk,zeo,List.getD_eq_getElem?_getD,List.getElem?_eq_getElem hk];rfl)
 have HTK:Hid (((strL s).drop 1).take ((strL s).drop 1).length=((strL s).drop 1)):=Lib.hid (List.take_length)
 obtain⟨l,hl⟩: ∃l,l=((strL s).drop 1):=⟨_,rfl⟩
 rw[←hl]at HV HG HST HTK HALL hdl hdn⊢
 obtain⟨D,hD⟩: ∃D,D=s.extract 1 s.size:=⟨_,rfl⟩
 rw[←hD]at HLS HG hdl
 have HDD:=Lib.hid hD
 have hs1:(1:Int)≤(s.size:Int):=by omega
 have HSZ:=Lib.hid hdl
 have hszN:D.size≤1000000000:=by rw[hdl];exact hdn
 clear hf hlen h45 hparts hall hfirst hex hv hl hD hdl hdn
 go_enter Tryz.func129,Tryz.ntmps129
 go_wp2_with(first
  |(go_at_call 156;(with_reducible refine(HFM.out _).mono ?_);rintro e w' ⟨rfl,rfl⟩)
  |(go_at_call 157;rw[←HDD.out];(with_reducible refine(HLS.out _).mono ?_);rintro e w' ⟨rfl,rfl⟩))
 go_loop [12,13] (fun n i=> ∃k:Nat,k≤l.length∧i= .int .i64 (k:Int)∧n= .int .i64 (-(valL (l.take k):Int))) (fun _ i=>l.length-(intOf i).toNat)
 case atStart=>exact⟨0,by omega,rfl,rfl⟩
 case round=>
  obtain⟨k,hk,rfl,rfl⟩:=hrel
  by_cases hkl:k<l.length
  ·have hlt:k<D.size:=by rw[HSZ.out];exact hkl
   have hd:=HALL.out.at k hkl
   have hst:=HST.out k hkl
   have hv1:=HV.out (k+1)
   have hv0:=HV.out k
   rw[HG.out k hlt]at hd hst
   have HN:Hid ((-(valL (l.take (k+1)):Int))= -(valL (l.take k):Int)*10-((((D[k]'hlt).toNat:Int))-48)):=Lib.hid (by rw[hst];omega)
   have hub:(valL (l.take k):Int)*10+((((D[k]'hlt).toNat:Int))-48)≤9223372036854775808:=by omega
   obtain⟨v,hvv⟩: ∃v,v=valL (l.take k):=⟨_,rfl⟩
   rw[←hvv]at hub hv0 HN⊢
   obtain⟨hd1,hd2⟩:=hd
   clear hst hvv hv1
   go_wp2
   go_round
   case rel=>exact⟨k+1,by omega,by go_num,by rw[HN.out]⟩
   case measure=>simp[intOf];omega
  ·obtain rfl:k=l.length:=by omega
   have hge: ¬l.length<D.size:=by rw[HSZ.out];omega
   have hv0:=HV.out l.length
   rw[HTK.out]at hv0⊢
   obtain⟨v,hvv⟩: ∃v,v=valL l:=⟨_,rfl⟩
   have HSZ2:Hid (((D.size:Nat):Int)=(l.length:Int)):=Lib.hid (by rw[HSZ.out])
   have hgi: ¬(l.length:Int)<(D.size:Int):=by omega
   rw[←hvv]at hv0⊢
   have HVV:=Lib.hid hvv
   clear hvv hkl
   by_cases h1:(-(v:Int))<least
   ·go_wp2
    refine bodyPost_ret (v:= .tuple #[.int .i64 0,.int .i64 41,.int .i64 (-1)]) (by simp[results,Tryz.results129,go_sem]) rfl ⟨?_,rfl⟩
    rw[←HVV.out,zew (by omega)]
   ·by_cases h2:most<(-(v:Int))
    ·go_wp2
     refine bodyPost_ret (v:= .tuple #[.int .i64 0,.int .i64 41,.int .i64 (-1)]) (by simp[results,Tryz.results129,go_sem]) rfl ⟨?_,rfl⟩
     rw[←HVV.out,zew (by omega)]
    ·go_wp2
     refine bodyPost_ret (v:= .tuple #[.int .i64 (-(v:Int)),.int .i64 0,.int .i64 (-1)]) (by simp[results,Tryz.results129,go_sem]) rfl ⟨?_,rfl⟩
     rw[←HVV.out,zjg (by omega)]
def zgd (l:List Int) (least most:Int):Value:=if zbe l=true then(if fitL l least most=true then .tuple #[.int .i64 (numL l),.int .i64 0,.int .i64 (-1)]else .tuple #[.int .i64 0,.int .i64 41,.int .i64 (-1)])else .tuple #[.int .i64 0,.int .i64 40,.int .i64 (zat l:Int)]
theorem refRead_anyN (s:ByteArray) (least most:Int) (w:World) (hs:s.size≤1000000000) (h0: -9223372036854775808≤least) (h1:most≤9223372036854775807):
  Calls Tryz.prog 129 #[.string s,.int .i64 least,.int .i64 most] w fun e w'=>e= .returned (zgd (strL s) least most)∧w=w':=by
 unfold zgd
 by_cases hf:zbe (strL s)=true
 ·rw[if_pos hf]
  by_cases h45:(strL s).getD 0 0=45
  ·have hn:numL (strL s)= -(valL ((strL s).drop 1):Int):=by unfold numL;rw[if_pos h45]
   rcases Nat.lt_or_ge 9223372036854775808 (valL ((strL s).drop 1))with hv|hv
   ·rw[if_neg (by unfold fitL;rw[decide_eq_true_eq,hn];omega)]
    exact ziY s least most w hs hf h45 hv
   ·have:=zjy s least most w hs hf h45 hv
    rw[←hn]at this
    by_cases hft:fitL (strL s) least most=true
    ·rw[if_pos hft]
     unfold fitL at hft
     rw[decide_eq_true_eq]at hft
     rwa [zjg hft.2.2]at this
    ·rw[if_neg hft]
     unfold fitL at hft
     rw[decide_eq_true_eq]at hft
     rwa [zew (by omega)]at this
  ·have hn:numL (strL s)=(valL (strL s):Int):=by unfold numL;rw[if_neg h45]
   rcases Nat.lt_or_ge 9223372036854775807 (valL (strL s))with hv|hv
   ·rw[if_neg (by unfold fitL;rw[decide_eq_true_eq,hn];omega)]
    exact zhd s least most w hs hf h45 hv
   ·have:=ziu s least most w hs hf h45 hv
    rw[←hn]at this
    by_cases hft:fitL (strL s) least most=true
    ·rw[if_pos hft]
     unfold fitL at hft
     rw[decide_eq_true_eq]at hft
     rwa [zjg hft.2.2]at this
    ·rw[if_neg hft]
     unfold fitL at hft
     rw[decide_eq_true_eq]at hft
     rwa [zew (by omega)]at this
 ·rw[if_neg hf]
  exact zna s least most w hs (by simpa using hf)
end Go.Proofs.YtjfgmgkhinehaaaGreatDoor
