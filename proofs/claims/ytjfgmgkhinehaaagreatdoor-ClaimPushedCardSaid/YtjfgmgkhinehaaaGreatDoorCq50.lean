
import Derived.Test.YtjfgmgkhinehaaaGreatDoorCq06
import Derived.Test.YtjfgmgkhinehaaaGreatDoorCq49
set_option maxRecDepth 100000
set_option maxHeartbeats 16000000
set_option linter.all false
namespace Go.Proofs.YtjfgmgkhinehaaaGreatDoor
open Go Go.RowKit
theorem getL_drop {k:List ByteArray} {l:List J} {name:ByteArray} {i:Nat} (h1:i<k.length) (h2:i<l.length):getL (k.drop i) (l.drop i) name=if k[i]=name then some l[i]else getL (k.drop (i+1)) (l.drop (i+1)) name:=by
 rw[List.drop_eq_getElem_cons h1,List.drop_eq_getElem_cons h2,getL]
theorem getL_end {k:List ByteArray} {l:List J} {name:ByteArray} {i:Nat} (h: ¬(i<k.length∧i<l.length)):getL (k.drop i) (l.drop i) name=none:=by
 rcases Nat.lt_or_ge i k.length with h1|h1
 ·rw[List.drop_eq_nil_of_le (show l.length≤i by omega)]
  cases k.drop i<;>rfl
 ·rw[List.drop_eq_nil_of_le h1]
  rfl
theorem RepJ.zero (W:World):RepJ W zeroJ (.agg #[.int .i64 0,.int .i64 0,.string ⟨#[]⟩,.slice none 0 0,.slice none 0 0]):=by
 unfold zeroJ
 rw[RepJ]
 exact⟨_,none,0,rfl,by decide,⟨none,0,rfl,by decide,fun h=>absurd rfl h⟩,by decide,fun h=>absurd rfl h⟩
theorem zgK (a:J) (va:Value) (name:ByteArray) (W:World) (ha:RepJ W a va) (hn:name.size≤9223372036854775807):
  Calls Tryz.prog 14 #[va,.string name] W fun e w'=> ∃v,e= .returned (.tuple #[v,.bool (getJ a name).isSome])∧RepJ w' ((getJ a name).getD zeroJ) v∧Below W.heap.size W w':=by
 obtain⟨vk,A,c,rfl,hs,hk,hl,hc⟩:=ha.open
 obtain⟨K,d,rfl,hkl,hkc⟩:=hk.open
 have HKC:=Lib.hid hkc
 have HC:=Lib.hid hc
 have HN:=Lib.hid hn
 obtain⟨s,hs1⟩: ∃s,s=a.s:=⟨_,rfl⟩
 obtain⟨kd,hk1⟩: ∃k,k=a.kind:=⟨_,rfl⟩
 obtain⟨n,hn1⟩: ∃k,k=a.n:=⟨_,rfl⟩
 obtain⟨p,hp1⟩: ∃k,k=a.l.length:=⟨_,rfl⟩
 obtain⟨q,hq1⟩: ∃k,k=a.k.length:=⟨_,rfl⟩
 rw[←hs1,←hk1,←hn1,←hp1,←hq1]
 rw[←hp1]at hl
 rw[←hq1]at hkl
 have HP:=Lib.hid hp1
 have HQ:=Lib.hid hq1
 have HK:=Lib.hid hk1
 clear ha hk hkc hc hs hs1 hn1 hn hp1 hq1
 by_cases hkd:kd=5
 ·have HJ:Hid (getJ a name=getL a.k a.l name):=Lib.hid (by rw[getJ,if_pos (by rw[←hk1];exact hkd)])
  subst hkd
  clear hk1
  go_enter Tryz.func14,Tryz.ntmps14
  go_wp2
  go_loopw[6] (fun v wr=> ∃j m:Nat,v= .int .i64 (j:Int)∧j≤q∧j≤p∧getL a.k a.l name=getL (a.k.drop j) (a.l.drop j) name∧wr=((W.alloc (.cells #[.int .i64 5,.int .i64 n,.string s,.slice A p c,.slice K q d] 27)).alloc (.cells #[.int .i64 0,.int .i64 0,.string ⟨#[]⟩,.slice none 0 0,.slice none 0 0] 27)).drewN m) (fun v _=>q-(intOf v).toNat)
  case atStart=>exact⟨0,0,rfl,by omega,by omega,rfl,rfl⟩
  case round=>
   obtain⟨j,m,rfl,hjq,hjp,hrun,hwr⟩:=hrel
   have HRUN:=Lib.hid hrun
   have hB:Below W.heap.size W wr:=by rw[hwr];exact zcQ (((Below.refl _ _).alloc (Nat.le_refl _) _).alloc (by simp) _) m
   have x0:wr.cell? ⟨W.heap.size,0,none⟩=some (.int .i64 5):=by rw[hwr];simp
   have x3:wr.cell? ⟨W.heap.size,3,none⟩=some (.slice A p c):=by rw[hwr];simp
   have x4:wr.cell? ⟨W.heap.size,4,none⟩=some (.slice K q d):=by rw[hwr];simp
   have r0:wr.cell? ⟨W.heap.size+1,0,none⟩=some (.int .i64 0):=by rw[hwr];simp
   have r1:wr.cell? ⟨W.heap.size+1,1,none⟩=some (.int .i64 0):=by rw[hwr];simp
   have r2:wr.cell? ⟨W.heap.size+1,2,none⟩=some (.string ⟨#[]⟩):=by rw[hwr];simp
   have r3:wr.cell? ⟨W.heap.size+1,3,none⟩=some (.slice none 0 0):=by rw[hwr];simp
   have r4:wr.cell? ⟨W.heap.size+1,4,none⟩=some (.slice none 0 0):=by rw[hwr];simp
   have rf: ∀i,wr.frozen? ⟨W.heap.size+1,i,none⟩=false:=fun i=>by rw[hwr];simp
   have HB:=Lib.hid hB
   have HWR:=Lib.hid hwr
   clear hrun hB hwr
   by_cases hlt:j<q∧j<p
   ·obtain⟨h1,h2⟩:=hlt
    have h1':j<a.k.length:=by rw[←HQ.out];exact h1
    have h2':j<a.l.length:=by rw[←HP.out];exact h2
    obtain⟨g,o,rfl,hg,_,hcell⟩:=HKC.out j h1'
    have z1:=(HB.out.cell (p:=⟨g,o+j,none⟩) hg).trans hcell
    obtain⟨g2,o2,rfl,hg2,hrep⟩:=HC.out (fun e=>by rw[e]at h2';exact absurd h2' (Nat.not_lt_zero _))
    obtain⟨v1,hr1,hf1⟩:=hrep.at j h2'
    obtain⟨vk1,A1,c1,rfl,_,hk1,_,_⟩:=hr1.open
    obtain⟨K1,d1,rfl,_,_⟩:=hk1.open
    have HR1:=Lib.hid hr1
    obtain⟨a0,a1,a2,a3,a4,hv1,y0,y1,y2,y3,y4⟩:=hf1.below hg2 HB.out
    simp only[Value.agg.injEq,Array.mk.injEq,List.cons.injEq,and_true]at hv1
    obtain⟨rfl,rfl,rfl,rfl,rfl⟩:=hv1
    clear hk1
    have HST:Hid (getL a.k a.l name=if a.k[j]=name then some a.l[j]else getL (a.k.drop (j+1)) (a.l.drop (j+1)) name):=Lib.hid (HRUN.out.trans (getL_drop h1' h2'))
    obtain⟨t1,ht1⟩: ∃t,t=a.k[j]:=⟨_,rfl⟩
    rw[←ht1]at z1 HST
    have i0:(j:Int)<(q:Int):=by omega
    have i1:(j:Int)<(p:Int):=by omega
    have i2:(0:Int)≤(j:Int):=by omega
    clear hcell ht1 hrep hr1 hf1 hg hg2
    by_cases he:t1=name
    ·have e1:=beq_str he
     have HF:Hid (getJ a name=some a.l[j]):=Lib.hid (by rw[HJ.out,HST.out,if_pos he])
     clear he
     go_wp2
     (try simp only[Exit.inBlock,Exit.then])
     have hB5:Below W.heap.size W (((((wr.setCell ⟨W.heap.size+1,0,none⟩ (.int .i64 a.l[j].kind)).setCell ⟨W.heap.size+1,1,none⟩ (.int .i64 a.l[j].n)).setCell ⟨W.heap.size+1,2,none⟩ (.string a.l[j].s)).setCell ⟨W.heap.size+1,3,none⟩ (.slice A1 a.l[j].l.length c1)).setCell ⟨W.heap.size+1,4,none⟩ (.slice K1 a.l[j].k.length d1)):=
      ((((HB.out.setCell (by simp) _).setCell (by simp) _).setCell (by simp) _).setCell (by simp) _).setCell (by simp) _
     refine bodyPost_ret (v:= .tuple #[.agg #[.int .i64 a.l[j].kind,.int .i64 a.l[j].n,.string a.l[j].s,.slice A1 a.l[j].l.length c1,.slice K1 a.l[j].k.length d1],.bool true]) ?_ rfl ⟨(.agg #[.int .i64 a.l[j].kind,.int .i64 a.l[j].n,.string a.l[j].s,.slice A1 a.l[j].l.length c1,.slice K1 a.l[j].k.length d1]),?_,?_,hB5⟩
     ·rw[results_cell_tmp rfl]
      go_simp
     ·rw[HF.out];rfl
     ·rw[HF.out];exact RepJ.below hB5 _ _ HR1.out
    ·have e1:=zig he
     have HF:Hid (getL a.k a.l name=getL (a.k.drop (j+1)) (a.l.drop (j+1)) name):=Lib.hid (by rw[HST.out,if_neg he])
     clear he
     go_wp2
     exact⟨⟨j+1,m,by go_num,by omega,by omega,HF.out,HWR.out⟩,by simp[intOf];omega⟩
   ·have HF:Hid (getJ a name=none):=Lib.hid (by rw[HJ.out,HRUN.out,getL_end (by rw[←HQ.out,←HP.out];exact hlt)])
    by_cases h1:j<q
    ·have i0:(j:Int)<(q:Int):=by omega
     have i1: ¬(j:Int)<(p:Int):=by omega
     clear hlt
     go_wp2
     (try simp only[Exit.inBlock,Exit.then])
     have hB5:Below W.heap.size W (((((wr.setCell ⟨W.heap.size+1,0,none⟩ (.int .i64 0)).setCell ⟨W.heap.size+1,1,none⟩ (.int .i64 0)).setCell ⟨W.heap.size+1,2,none⟩ (.string ⟨#[]⟩)).setCell ⟨W.heap.size+1,3,none⟩ (.slice none 0 0)).setCell ⟨W.heap.size+1,4,none⟩ (.slice none 0 0)):=
      ((((HB.out.setCell (by simp) _).setCell (by simp) _).setCell (by simp) _).setCell (by simp) _).setCell (by simp) _
     refine bodyPost_ret (v:= .tuple #[.agg #[.int .i64 0,.int .i64 0,.string ⟨#[]⟩,.slice none 0 0,.slice none 0 0],.bool false]) ?_ rfl ⟨.agg #[.int .i64 0,.int .i64 0,.string ⟨#[]⟩,.slice none 0 0,.slice none 0 0],?_,?_,hB5⟩
     ·rw[results_cell_tmp rfl]
      go_simp
     ·rw[HF.out];rfl
     ·rw[HF.out];exact RepJ.zero _
    ·have i0: ¬(j:Int)<(q:Int):=by omega
     clear hlt
     go_wp2
     (try simp only[Exit.inBlock,Exit.then])
     have hB5:Below W.heap.size W (((((wr.setCell ⟨W.heap.size+1,0,none⟩ (.int .i64 0)).setCell ⟨W.heap.size+1,1,none⟩ (.int .i64 0)).setCell ⟨W.heap.size+1,2,none⟩ (.string ⟨#[]⟩)).setCell ⟨W.heap.size+1,3,none⟩ (.slice none 0 0)).setCell ⟨W.heap.size+1,4,none⟩ (.slice none 0 0)):=
      ((((HB.out.setCell (by simp) _).setCell (by simp) _).setCell (by simp) _).setCell (by simp) _).setCell (by simp) _
     refine bodyPost_ret (v:= .tuple #[.agg #[.int .i64 0,.int .i64 0,.string ⟨#[]⟩,.slice none 0 0,.slice none 0 0],.bool false]) ?_ rfl ⟨.agg #[.int .i64 0,.int .i64 0,.string ⟨#[]⟩,.slice none 0 0,.slice none 0 0],?_,?_,hB5⟩
     ·rw[results_cell_tmp rfl]
      go_simp
     ·rw[HF.out];rfl
     ·rw[HF.out];exact RepJ.zero _
 ·have b5:(kd==5)=false:=by rw[beq_eq_false_iff_ne];exact hkd
  have HJ:Hid (getJ a name=none):=Lib.hid (by rw[getJ,if_neg (by rw[←hk1];exact hkd)])
  clear hk1 hkd
  go_enter Tryz.func14,Tryz.ntmps14
  go_wp2
  go_loopw[6] (fun v wr=>v= .int .i64 0∧wr=((W.alloc (.cells #[.int .i64 kd,.int .i64 n,.string s,.slice A p c,.slice K q d] 27)).alloc (.cells #[.int .i64 0,.int .i64 0,.string ⟨#[]⟩,.slice none 0 0,.slice none 0 0] 27))) (fun v _=>0)
  case atStart=>exact⟨rfl,rfl⟩
  case round=>
   obtain⟨rfl,hwr⟩:=hrel
   have hB:Below W.heap.size W wr:=by rw[hwr];exact((Below.refl _ _).alloc (Nat.le_refl _) _).alloc (by simp) _
   have x0:wr.cell? ⟨W.heap.size,0,none⟩=some (.int .i64 kd):=by rw[hwr];simp
   have r0:wr.cell? ⟨W.heap.size+1,0,none⟩=some (.int .i64 0):=by rw[hwr];simp
   have r1:wr.cell? ⟨W.heap.size+1,1,none⟩=some (.int .i64 0):=by rw[hwr];simp
   have r2:wr.cell? ⟨W.heap.size+1,2,none⟩=some (.string ⟨#[]⟩):=by rw[hwr];simp
   have r3:wr.cell? ⟨W.heap.size+1,3,none⟩=some (.slice none 0 0):=by rw[hwr];simp
   have r4:wr.cell? ⟨W.heap.size+1,4,none⟩=some (.slice none 0 0):=by rw[hwr];simp
   have rf: ∀i,wr.frozen? ⟨W.heap.size+1,i,none⟩=false:=fun i=>by rw[hwr];simp
   have HB:=Lib.hid hB
   clear hB hwr
   go_wp2
   (try simp only[Exit.inBlock,Exit.then])
   have hB5:Below W.heap.size W (((((wr.setCell ⟨W.heap.size+1,0,none⟩ (.int .i64 0)).setCell ⟨W.heap.size+1,1,none⟩ (.int .i64 0)).setCell ⟨W.heap.size+1,2,none⟩ (.string ⟨#[]⟩)).setCell ⟨W.heap.size+1,3,none⟩ (.slice none 0 0)).setCell ⟨W.heap.size+1,4,none⟩ (.slice none 0 0)):=
    ((((HB.out.setCell (by simp) _).setCell (by simp) _).setCell (by simp) _).setCell (by simp) _).setCell (by simp) _
   refine bodyPost_ret (v:= .tuple #[.agg #[.int .i64 0,.int .i64 0,.string ⟨#[]⟩,.slice none 0 0,.slice none 0 0],.bool false]) ?_ rfl ⟨.agg #[.int .i64 0,.int .i64 0,.string ⟨#[]⟩,.slice none 0 0,.slice none 0 0],?_,?_,hB5⟩
   ·rw[results_cell_tmp rfl]
    go_simp
   ·rw[HJ.out];rfl
   ·rw[HJ.out];exact RepJ.zero _
theorem hexL_snd (l:List Int): ∀(k i:Nat) (n:Int),0≤(hexL l k i n).2
 |0,_,_=>by rw[hexL];show(0:Int)≤0;decide
 |k+1,i,n=>by
  rw[hexL]
  split
  ·exact Int.natCast_nonneg _
  ·exact hexL_snd l k _ _
theorem hexL_fst (l:List Int): ∀(k i:Nat) (n:Int),0≤n→ -1≤(hexL l k i n).1∧(hexL l k i n).1<(n+1)*16^k
 |0,_,n,h=>by rw[hexL];show-1≤n∧n<(n+1)*1;omega
 |k+1,i,n,h=>by
  have hd:=zny (atL l i)
  have hp:(0:Int)<16^k:=Int.pow_pos (by decide)
  rw[hexL]
  split
  ·refine⟨by show(-1:Int)≤ -1;decide,?_⟩
   have:0<(n+1)*16^(k+1):=Int.mul_pos (by omega) (Int.pow_pos (by decide))
   show(-1:Int)<_
   omega
  ·have h1:=hexL_fst l k (i+1) (16*n+hexD (atL l i)) (by omega)
   refine⟨h1.1,Int.lt_of_lt_of_le h1.2 ?_⟩
   rw[Int.pow_succ,←Int.mul_assoc,Int.mul_right_comm]
   exact Int.mul_le_mul_of_nonneg_right (by omega) (by omega)
theorem hex4_bd (l:List Int) (i:Nat): -1≤(hexL l 4 i 0).1∧(hexL l 4 i 0).1≤65535:=by
 have:=hexL_fst l 4 i 0 (by decide)
 omega
theorem RepCS.at {W:World} {S:Nat→Prop} {b:Nat}: ∀{l:List J} {o:Nat},RepCS W S b o l→ ∀i (hi:i<l.length),∃v,RepS W S l[i] v∧Five W b (o+i*5) v
 |x::r,o,h,0,_=>by rw[RepCS]at h;rw[Nat.zero_mul];exact h.1
 |x::r,o,h,i+1,hi=>by
  rw[RepCS]at h
  have:=h.2.at i (by simpa using hi)
  rw[show o+5+i*5=o+(i+1)*5 by omega]at this
  exact this
theorem toS_nil:(⟨#[]⟩:ByteArray)=toS []:=rfl
theorem refHex_at (s:ByteArray) (I:Int) (i:Nat) (w:World) (hI:I=(i:Int)) (hs:s.size≤9223372036854775807) (hi:i≤9223372036854770000):
  Calls Tryz.prog 160 #[.string s,.int .i64 I] w fun e w'=>e= .returned (.tuple #[.int .i64 (hexL (strL s) 4 i 0).1,.int .i64 (hexL (strL s) 4 i 0).2])∧Below w.heap.size w w':=by
 subst hI;exact refHex_any s i w hs hi
theorem ret_q {a a':ByteArray} {b b' c c':Int} (h1:a=a') (h2:b=b') (h3:c=c'):Ending.returned (.tuple #[.string a,.int .i64 b,.int .i64 c])= .returned (.tuple #[.string a',.int .i64 b',.int .i64 c']):=by rw[h1,h2,h3]
theorem zbd {a b:Int} (h:a≠b):(a==b)=false∧(a !=b)=true:=by
 have h1:(a==b)=false:=by rw[beq_eq_false_iff_ne];exact h
 exact⟨h1,by rw[bne,h1];rfl⟩
theorem zbl {a b:Int} (h:a=b):(a==b)=true∧(a !=b)=false:=by
 have h1:(a==b)=true:=by rw[beq_iff_eq];exact h
 exact⟨h1,by rw[bne,h1];rfl⟩
theorem str_part (s:ByteArray) (k n:Nat) (h:k+n≤s.size):s.extract k (k+n)=toS (((strL s).drop k).take n):=by
 rw[←zhW (s.extract k (k+n)),zau,List.drop_take,show k+n-k=n by omega]
theorem zhe (s:ByteArray) (i:Nat) (w:World) (hs:s.size≤1000000) (hi:i≤1000000):
  Calls Tryz.prog 131 #[.string s,.int .i64 (i:Int)] w fun e w'=>e= .returned (.tuple #[.string (toS (zah (strL s) i).1),.int .i64 ((zah (strL s) i).2.1:Int),.int .i64 (zah (strL s) i).2.2])∧Below w.heap.size w w':=by
 have HL:=Lib.hid (zaX s)
 have HC0:=Lib.hid (fun W:World=>zay s i W (by omega) (by omega))
 obtain⟨q0,hq0⟩: ∃q,q=atL (strL s) i:=⟨_,rfl⟩
 rw[←hq0]at HC0
 by_cases h34:q0=34
 ·have HR0:Hid (zah (strL s) i=zbW (strL s) (s.size+1) (i+1) []):=Lib.hid (by unfold zah;rw[←hq0,if_neg (by omega),HL.out])
  have hb0:(q0==34)=true:=by rw[beq_iff_eq];exact h34
  have hb0':(q0 !=34)=false:=by rw[bne,hb0];rfl
  clear hq0 h34
  go_enter Tryz.func131,Tryz.ntmps131
  go_wp2_with(go_at_call 127;refine(HC0.out _).mono ?_;rintro e w' ⟨rfl,rfl⟩)
  go_loopw[1,7] (fun a o wr=> ∃(k f:Nat) (out:List Int),a= .int .i64 (k:Int)∧o= .string (toS out)∧k≤s.size+1000012∧s.size<k+f∧out.length≤k∧Bytes out∧zah (strL s) i=zbW (strL s) f k out∧Below w.heap.size w wr) (fun a _ _=>s.size+1000013-(intOf a).toNat)
  case atStart=>exact⟨i+1,s.size+1,[],by go_num,rfl,by omega,by omega,by simp,.of_mem (by simp),HR0.out,Below.refl _ _⟩
  case round=>
   obtain⟨k,f,out,rfl,rfl,hk,hf,hol,hob,hrun,hbel⟩:=hrel
   have HRUN:=Lib.hid hrun
   have HBE:=Lib.hid hbel
   have HOB:=Lib.hid hob
   have HF:=Lib.hid hf
   clear hrun hbel hob HR0 HC0 hf
   obtain⟨c,hc⟩: ∃c,c=atL (strL s) k:=⟨_,rfl⟩
   have hcb:=atL_bd s k
   rw[←hc]at hcb
   have HC1:=Lib.hid (fun W:World=>zay s k W (by omega) (by omega))
   rw[←hc]at HC1
   have HLT:Hid (32≤c→k<s.size):=Lib.hid (fun h=>by rw[←HL.out];exact zav (by rw[←hc];omega))
   by_cases h32:c<32
   ·have HR:Hid (zah (strL s) i=([],k,50)):=Lib.hid (by
     rw[HRUN.out]
     cases f with
     |zero=>rfl
     |succ f=>rw[zbW,←hc,if_pos h32])
    clear hc
    go_wp2_with(go_at_call 127;refine(HC1.out _).mono ?_;rintro e w' ⟨rfl,rfl⟩)
    go_ret3
    rw[HR.out]
    exact⟨rfl,HBE.out⟩
   ·have hklt:=HLT.out (by omega)
    obtain⟨f,rfl⟩: ∃f',f=f'+1:=⟨f-1,by have:=HF.out;omega⟩
    by_cases h34:c=34
    ·have HR:Hid (zah (strL s) i=(out,k+1,0)):=Lib.hid (by rw[HRUN.out,zbW,←hc,if_neg h32,if_pos h34])
     subst h34
     clear hc
     go_wp2_with(go_at_call 127;(with_reducible refine(HC1.out _).mono ?_);rintro e w' ⟨rfl,rfl⟩)
     go_ret3
     rw[HR.out]
     exact⟨ret_q rfl (by show(k:Int)+1=((k+1:Nat):Int);omega) rfl,HBE.out⟩
    ·obtain⟨n34,_⟩:=zbd h34
     by_cases h92:c=92
     ·have HC2:=Lib.hid (fun W:World=>zes s ((k:Int)+1) (k+1) W (by omega) (by omega) (by omega))
      obtain⟨d,hd⟩: ∃d,d=atL (strL s) (k+1):=⟨_,rfl⟩
      rw[←hd]at HC2
      by_cases h117:d=117
      ·have HX:=Lib.hid (fun W:World=>refHex_at s ((k:Int)+2) (k+2) W (by omega) (by omega) (by omega))
       have hxb:=hex4_bd (strL s) (k+2)
       have hxs:=hexL_snd (strL s) 4 (k+2) 0
       obtain⟨x,hx⟩: ∃x,x=(hexL (strL s) 4 (k+2) 0).1:=⟨_,rfl⟩
       obtain⟨y,hy⟩: ∃y,y=(hexL (strL s) 4 (k+2) 0).2:=⟨_,rfl⟩
       have HSTEP:Hid (zah (strL s) i=if x<0 then([],y.toNat,50)else if x<55296∨57343<x then zbW (strL s) f (k+6) (out++putL x)else if 56320≤x∨zbf (strL s) k<56320∨57343<zbf (strL s) k then([],k,50)else zbW (strL s) f (k+12) (out++putL (65536+(x-55296)*1024+zbf (strL s) k-56320))):=Lib.hid (by
        rw[HRUN.out,zbW,←hc,←hd,if_neg h32,if_neg h34,if_neg (by omega),if_neg (by omega),←hx,←hy])
       rw[←hx]at hxb
       rw[←hx,←hy]at HX
       rw[←hy]at hxs
       clear hx hy
       obtain⟨b92,m92⟩:=zbl h92
       obtain⟨b117,m117⟩:=zbl h117
       obtain⟨hx0,hx1⟩:=hxb
       by_cases hxn:x<0
       ·have HR:Hid (zah (strL s) i=([],y.toNat,50)):=Lib.hid (by rw[HSTEP.out,if_pos hxn])
        clear hc hd h92 h117 HSTEP
        go_wp2_with(first|(go_at_call 127;(with_reducible refine(HC1.out _).mono ?_);rintro e w' ⟨rfl,rfl⟩)|(go_at_call 127;(with_reducible refine(HC2.out _).mono ?_);rintro e w' ⟨rfl,rfl⟩)|(go_at_call 160;(with_reducible refine(HX.out _).mono ?_);rintro e w2 ⟨rfl,hb⟩;have HB2:=Lib.hid (HBE.out.trans (hb.mono HBE.out.size));clear hb))
        go_ret3
        rw[HR.out]
        exact⟨ret_q rfl (by show y=((y.toNat:Nat):Int);omega) rfl,HB2.out⟩
       ·by_cases hlet:x<55296∨57343<x
        ·have HR:Hid (zah (strL s) i=zbW (strL s) f (k+6) (out++putL x)):=Lib.hid (by rw[HSTEP.out,if_neg hxn,if_pos hlet])
         have HP:=Lib.hid (fun W:World=>zia x W)
         have hpl:=zcn x
         have hpb:=zdh x
         have HJ:Hid (toS out++toS (putL x)=toS (out++putL x)):=Lib.hid (zcd HOB.out hpb)
         have HOB2:=Lib.hid (HOB.out.append hpb)
         have hsum:(toS out).size+(toS (putL x)).size≤9223372036854775807:=by rw[zap,zap];omega
         have HPL:Hid ((out++putL x).length≤k+6):=Lib.hid (by rw[List.length_append];omega)
         obtain⟨P,hP⟩: ∃P,P=toS (putL x):=⟨_,rfl⟩
         rw[←hP]at HP HJ hsum
         obtain⟨U,hU⟩: ∃U,U=toS out:=⟨_,rfl⟩
         rw[←hU]at HJ hsum⊢
         clear hc hd h92 h117 HSTEP hpl hpb hP hU
         by_cases hl1:x<55296
         ·clear hlet
          go_wp2_with(first|(go_at_call 127;(with_reducible refine(HC1.out _).mono ?_);rintro e w' ⟨rfl,rfl⟩)|(go_at_call 127;(with_reducible refine(HC2.out _).mono ?_);rintro e w' ⟨rfl,rfl⟩)|(go_at_call 160;(with_reducible refine(HX.out _).mono ?_);rintro e w2 ⟨rfl,hb⟩;have HB2:=Lib.hid (HBE.out.trans (hb.mono HBE.out.size));clear hb)|(go_at_call 161;(with_reducible refine(HP.out _).mono ?_);rintro e w3 ⟨rfl,hb⟩;have HB3:=Lib.hid (HB2.out.trans (hb.mono HB2.out.size));clear hb))
          go_roundw
          case rel=>exact⟨k+6,f,out++putL x,by go_num,by rw[←HJ.out],by omega,by have:=HF.out;omega,HPL.out,HOB2.out,HR.out,HB3.out⟩
          case measure=>simp[intOf];omega
         ·have hl2:57343<x:=by omega
          clear hlet
          go_wp2_with(first|(go_at_call 127;(with_reducible refine(HC1.out _).mono ?_);rintro e w' ⟨rfl,rfl⟩)|(go_at_call 127;(with_reducible refine(HC2.out _).mono ?_);rintro e w' ⟨rfl,rfl⟩)|(go_at_call 160;(with_reducible refine(HX.out _).mono ?_);rintro e w2 ⟨rfl,hb⟩;have HB2:=Lib.hid (HBE.out.trans (hb.mono HBE.out.size));clear hb)|(go_at_call 161;(with_reducible refine(HP.out _).mono ?_);rintro e w3 ⟨rfl,hb⟩;have HB3:=Lib.hid (HB2.out.trans (hb.mono HB2.out.size));clear hb))
          go_roundw
          case rel=>exact⟨k+6,f,out++putL x,by go_num,by rw[←HJ.out],by omega,by have:=HF.out;omega,HPL.out,HOB2.out,HR.out,HB3.out⟩
          case measure=>simp[intOf];omega
        ·have HC6:=Lib.hid (fun W:World=>zes s ((k:Int)+6) (k+6) W (by omega) (by omega) (by omega))
         have HC7:=Lib.hid (fun W:World=>zes s ((k:Int)+7) (k+7) W (by omega) (by omega) (by omega))
         have HY:=Lib.hid (fun W:World=>refHex_at s ((k:Int)+8) (k+8) W (by omega) (by omega) (by omega))
         have hzb:=hex4_bd (strL s) (k+8)
         have HHALF:Hid (zbf (strL s) k=if atL (strL s) (k+6)=92∧atL (strL s) (k+7)=117 then(hexL (strL s) 4 (k+8) 0).1 else-1):=Lib.hid rfl
         obtain⟨m,hm⟩: ∃m,m=zbf (strL s) k:=⟨_,rfl⟩
         rw[←hm]at HHALF HSTEP
         obtain⟨c6,hc6⟩: ∃m,m=atL (strL s) (k+6):=⟨_,rfl⟩
         obtain⟨c7,hc7⟩: ∃m,m=atL (strL s) (k+7):=⟨_,rfl⟩
         obtain⟨z,hz⟩: ∃m,m=(hexL (strL s) 4 (k+8) 0).1:=⟨_,rfl⟩
         obtain⟨z2,hz2⟩: ∃m,m=(hexL (strL s) 4 (k+8) 0).2:=⟨_,rfl⟩
         rw[←hc6,←hc7,←hz]at HHALF
         rw[←hc6]at HC6
         rw[←hc7]at HC7
         rw[←hz,←hz2]at HY
         rw[←hz]at hzb
         obtain⟨hz0,hz1⟩:=hzb
         clear hm hc6 hc7 hz hz2
         have hx2: ¬x<55296:=by omega
         have hx3: ¬57343<x:=by omega
         have HSTEP2:Hid (zah (strL s) i=if 56320≤x∨m<56320∨57343<m then([],k,50)else zbW (strL s) f (k+12) (out++putL (65536+(x-55296)*1024+m-56320))):=Lib.hid (by rw[HSTEP.out,if_neg hxn,if_neg hlet])
         clear HSTEP hlet hc hd h92 h117
         by_cases hbs:c6=92∧c7=117
         ·obtain⟨h6,h7⟩:=hbs
          have hmz:m=z:=by rw[HHALF.out,if_pos ⟨h6,h7⟩]
          clear HHALF
          subst hmz
          obtain⟨b6,m6⟩:=zbl h6
          obtain⟨b7,m7⟩:=zbl h7
          clear h6 h7
          by_cases g1:56320≤x
          ·have HR:Hid (zah (strL s) i=([],k,50)):=Lib.hid (by rw[HSTEP2.out,if_pos (.inl g1)])
           clear HSTEP2
           go_wp2_with(first|(go_at_call 127;(with_reducible refine(HC1.out _).mono ?_);rintro e w' ⟨rfl,rfl⟩)|(go_at_call 127;(with_reducible refine(HC2.out _).mono ?_);rintro e w' ⟨rfl,rfl⟩)|(go_at_call 160;(with_reducible refine(HX.out _).mono ?_);rintro e w2 ⟨rfl,hb⟩;have HB2:=Lib.hid (HBE.out.trans (hb.mono HBE.out.size));clear hb)|(go_at_call 127;(with_reducible refine(HC6.out _).mono ?_);rintro e w' ⟨rfl,rfl⟩)|(go_at_call 127;(with_reducible refine(HC7.out _).mono ?_);rintro e w' ⟨rfl,rfl⟩)|(go_at_call 160;(with_reducible refine(HY.out _).mono ?_);rintro e w3 ⟨rfl,hb⟩;have HB3:=Lib.hid (HB2.out.trans (hb.mono HB2.out.size));clear hb))
           go_ret3
           rw[HR.out]
           exact⟨rfl,HB3.out⟩
          ·by_cases g2:m<56320
           ·have HR:Hid (zah (strL s) i=([],k,50)):=Lib.hid (by rw[HSTEP2.out,if_pos (.inr (.inl g2))])
            clear HSTEP2
            go_wp2_with(first|(go_at_call 127;(with_reducible refine(HC1.out _).mono ?_);rintro e w' ⟨rfl,rfl⟩)|(go_at_call 127;(with_reducible refine(HC2.out _).mono ?_);rintro e w' ⟨rfl,rfl⟩)|(go_at_call 160;(with_reducible refine(HX.out _).mono ?_);rintro e w2 ⟨rfl,hb⟩;have HB2:=Lib.hid (HBE.out.trans (hb.mono HBE.out.size));clear hb)|(go_at_call 127;(with_reducible refine(HC6.out _).mono ?_);rintro e w' ⟨rfl,rfl⟩)|(go_at_call 127;(with_reducible refine(HC7.out _).mono ?_);rintro e w' ⟨rfl,rfl⟩)|(go_at_call 160;(with_reducible refine(HY.out _).mono ?_);rintro e w3 ⟨rfl,hb⟩;have HB3:=Lib.hid (HB2.out.trans (hb.mono HB2.out.size));clear hb))
            go_ret3
            rw[HR.out]
            exact⟨rfl,HB3.out⟩
           ·by_cases g3:57343<m
            ·have HR:Hid (zah (strL s) i=([],k,50)):=Lib.hid (by rw[HSTEP2.out,if_pos (.inr (.inr g3))])
             clear HSTEP2
             go_wp2_with(first|(go_at_call 127;(with_reducible refine(HC1.out _).mono ?_);rintro e w' ⟨rfl,rfl⟩)|(go_at_call 127;(with_reducible refine(HC2.out _).mono ?_);rintro e w' ⟨rfl,rfl⟩)|(go_at_call 160;(with_reducible refine(HX.out _).mono ?_);rintro e w2 ⟨rfl,hb⟩;have HB2:=Lib.hid (HBE.out.trans (hb.mono HBE.out.size));clear hb)|(go_at_call 127;(with_reducible refine(HC6.out _).mono ?_);rintro e w' ⟨rfl,rfl⟩)|(go_at_call 127;(with_reducible refine(HC7.out _).mono ?_);rintro e w' ⟨rfl,rfl⟩)|(go_at_call 160;(with_reducible refine(HY.out _).mono ?_);rintro e w3 ⟨rfl,hb⟩;have HB3:=Lib.hid (HB2.out.trans (hb.mono HB2.out.size));clear hb))
             go_ret3
             rw[HR.out]
             exact⟨rfl,HB3.out⟩
            ·have HR:Hid (zah (strL s) i=zbW (strL s) f (k+12) (out++putL (65536+(x-55296)*1024+m-56320))):=Lib.hid (by rw[HSTEP2.out,if_neg (by omega)])
             have HP:=Lib.hid (fun W:World=>zia (65536+(x-55296)*1024+m-56320) W)
             have hpl:=zcn (65536+(x-55296)*1024+m-56320)
             have hpb:=zdh (65536+(x-55296)*1024+m-56320)
             obtain⟨Q,hQ⟩: ∃Q,Q=putL (65536+(x-55296)*1024+m-56320):=⟨_,rfl⟩
             rw[←hQ]at HP HR hpl hpb
             clear hQ HSTEP2
             have HJ:Hid (toS out++toS Q=toS (out++Q)):=Lib.hid (zcd HOB.out hpb)
             have HOB2:=Lib.hid (HOB.out.append hpb)
             have hsum:(toS out).size+(toS Q).size≤9223372036854775807:=by rw[zap,zap];omega
             have HPL:Hid ((out++Q).length≤k+12):=Lib.hid (by rw[List.length_append];omega)
             obtain⟨P,hP⟩: ∃P,P=toS Q:=⟨_,rfl⟩
             rw[←hP]at HP HJ hsum
             obtain⟨U,hU⟩: ∃U,U=toS out:=⟨_,rfl⟩
             rw[←hU]at HJ hsum⊢
             clear hpl hpb hP hU
             have hy1: ¬56320≤x:=g1
             go_wp2_with(first|(go_at_call 127;(with_reducible refine(HC1.out _).mono ?_);rintro e w' ⟨rfl,rfl⟩)|(go_at_call 127;(with_reducible refine(HC2.out _).mono ?_);rintro e w' ⟨rfl,rfl⟩)|(go_at_call 160;(with_reducible refine(HX.out _).mono ?_);rintro e w2 ⟨rfl,hb⟩;have HB2:=Lib.hid (HBE.out.trans (hb.mono HBE.out.size));clear hb)|(go_at_call 127;(with_reducible refine(HC6.out _).mono ?_);rintro e w' ⟨rfl,rfl⟩)|(go_at_call 127;(with_reducible refine(HC7.out _).mono ?_);rintro e w' ⟨rfl,rfl⟩)|(go_at_call 160;(with_reducible refine(HY.out _).mono ?_);rintro e w3 ⟨rfl,hb⟩;have HB3:=Lib.hid (HB2.out.trans (hb.mono HB2.out.size));clear hb)|(go_at_call 161;(with_reducible refine(HP.out _).mono ?_);rintro e w4 ⟨rfl,hb⟩;have HB4:=Lib.hid (HB3.out.trans (hb.mono HB3.out.size));clear hb))
             go_roundw
             case rel=>exact⟨k+12,f,out++Q,by go_num,by rw[←HJ.out],by omega,by have:=HF.out;omega,HPL.out,HOB2.out,HR.out,HB4.out⟩
             case measure=>simp[intOf];omega
         ·have hmz:m= -1:=by rw[HHALF.out,if_neg hbs]
          have HR:Hid (zah (strL s) i=([],k,50)):=Lib.hid (by rw[HSTEP2.out,if_pos (by omega)])
          clear HHALF HSTEP2
          subst hmz
          by_cases h6:c6=92
          ·have h7:c7≠117:=fun h=>hbs ⟨h6,h⟩
           obtain⟨b6,m6⟩:=zbl h6
           obtain⟨b7,m7⟩:=zbd h7
           clear h6 h7 hbs
           by_cases g1:56320≤x
           ·go_wp2_with(first|(go_at_call 127;(with_reducible refine(HC1.out _).mono ?_);rintro e w' ⟨rfl,rfl⟩)|(go_at_call 127;(with_reducible refine(HC2.out _).mono ?_);rintro e w' ⟨rfl,rfl⟩)|(go_at_call 160;(with_reducible refine(HX.out _).mono ?_);rintro e w2 ⟨rfl,hb⟩;have HB2:=Lib.hid (HBE.out.trans (hb.mono HBE.out.size));clear hb)|(go_at_call 127;(with_reducible refine(HC6.out _).mono ?_);rintro e w' ⟨rfl,rfl⟩)|(go_at_call 127;(with_reducible refine(HC7.out _).mono ?_);rintro e w' ⟨rfl,rfl⟩))
            go_ret3
            rw[HR.out]
            exact⟨rfl,HB2.out⟩
           ·go_wp2_with(first|(go_at_call 127;(with_reducible refine(HC1.out _).mono ?_);rintro e w' ⟨rfl,rfl⟩)|(go_at_call 127;(with_reducible refine(HC2.out _).mono ?_);rintro e w' ⟨rfl,rfl⟩)|(go_at_call 160;(with_reducible refine(HX.out _).mono ?_);rintro e w2 ⟨rfl,hb⟩;have HB2:=Lib.hid (HBE.out.trans (hb.mono HBE.out.size));clear hb)|(go_at_call 127;(with_reducible refine(HC6.out _).mono ?_);rintro e w' ⟨rfl,rfl⟩)|(go_at_call 127;(with_reducible refine(HC7.out _).mono ?_);rintro e w' ⟨rfl,rfl⟩))
            go_ret3
            rw[HR.out]
            exact⟨rfl,HB2.out⟩
          ·obtain⟨b6,m6⟩:=zbd h6
           clear h6 hbs
           by_cases g1:56320≤x
           ·go_wp2_with(first|(go_at_call 127;(with_reducible refine(HC1.out _).mono ?_);rintro e w' ⟨rfl,rfl⟩)|(go_at_call 127;(with_reducible refine(HC2.out _).mono ?_);rintro e w' ⟨rfl,rfl⟩)|(go_at_call 160;(with_reducible refine(HX.out _).mono ?_);rintro e w2 ⟨rfl,hb⟩;have HB2:=Lib.hid (HBE.out.trans (hb.mono HBE.out.size));clear hb)|(go_at_call 127;(with_reducible refine(HC6.out _).mono ?_);rintro e w' ⟨rfl,rfl⟩))
            go_ret3
            rw[HR.out]
            exact⟨rfl,HB2.out⟩
           ·go_wp2_with(first|(go_at_call 127;(with_reducible refine(HC1.out _).mono ?_);rintro e w' ⟨rfl,rfl⟩)|(go_at_call 127;(with_reducible refine(HC2.out _).mono ?_);rintro e w' ⟨rfl,rfl⟩)|(go_at_call 160;(with_reducible refine(HX.out _).mono ?_);rintro e w2 ⟨rfl,hb⟩;have HB2:=Lib.hid (HBE.out.trans (hb.mono HBE.out.size));clear hb)|(go_at_call 127;(with_reducible refine(HC6.out _).mono ?_);rintro e w' ⟨rfl,rfl⟩))
            go_ret3
            rw[HR.out]
            exact⟨rfl,HB2.out⟩
      ·have HPLN:=Lib.hid (fun W:World=>refPlain_any d W)
       obtain⟨b92,m92⟩:=zbl h92
       obtain⟨b117,m117⟩:=zbd h117
       have HSTEP:Hid (zah (strL s) i=if zaq d=[]then([],k+1,50)else zbW (strL s) f (k+2) (out++zaq d)):=Lib.hid (by
        rw[HRUN.out,zbW,←hc,←hd,if_neg h32,if_neg h34,if_neg (by omega),if_pos h117])
       have hpl:=zkV d
       have hpb:=zkY d
       by_cases hpe:zaq d=[]
       ·have HR:Hid (zah (strL s) i=([],k+1,50)):=Lib.hid (by rw[HSTEP.out,if_pos hpe])
        rw[hpe,←toS_nil]at HPLN
        clear hc hd h92 h117 HSTEP hpl hpb hpe
        go_wp2_with(first|(go_at_call 127;(with_reducible refine(HC1.out _).mono ?_);rintro e w' ⟨rfl,rfl⟩)|(go_at_call 127;(with_reducible refine(HC2.out _).mono ?_);rintro e w' ⟨rfl,rfl⟩)|(go_at_call 159;(with_reducible refine(HPLN.out _).mono ?_);rintro e w2 ⟨rfl,hb⟩;have HB2:=Lib.hid (HBE.out.trans (hb.mono HBE.out.size));clear hb))
        go_ret3
        rw[HR.out]
        exact⟨ret_q rfl (by show(k:Int)+1=((k+1:Nat):Int);omega) rfl,HB2.out⟩
       ·have HR:Hid (zah (strL s) i=zbW (strL s) f (k+2) (out++zaq d)):=Lib.hid (by rw[HSTEP.out,if_neg hpe])
        have HJ:Hid (toS out++toS (zaq d)=toS (out++zaq d)):=Lib.hid (zcd HOB.out hpb)
        have HOB2:=Lib.hid (HOB.out.append hpb)
        have hsum:(toS out).size+(toS (zaq d)).size≤9223372036854775807:=by rw[zap,zap];omega
        have HPL:Hid ((out++zaq d).length≤k+2):=Lib.hid (by rw[List.length_append];omega)
        have hne:((toS (zaq d)).toList==[])=false:=by
         rw[beq_eq_false_iff_ne]
         intro h
         refine hpe ?_
         have h2:(toS (zaq d)).size=0:=by rw[ByteArray.toList_eq]at h;exact congrArg List.length h
         rw[zap]at h2
         exact List.eq_nil_of_length_eq_zero h2
        obtain⟨P,hP⟩: ∃P,P=toS (zaq d):=⟨_,rfl⟩
        rw[←hP]at HPLN HJ hsum hne
        obtain⟨U,hU⟩: ∃U,U=toS out:=⟨_,rfl⟩
        rw[←hU]at HJ hsum⊢
        clear hc hd h92 h117 HSTEP hpl hpb hP hU hpe
        go_wp2_with(first|(go_at_call 127;(with_reducible refine(HC1.out _).mono ?_);rintro e w' ⟨rfl,rfl⟩)|(go_at_call 127;(with_reducible refine(HC2.out _).mono ?_);rintro e w' ⟨rfl,rfl⟩)|(go_at_call 159;(with_reducible refine(HPLN.out _).mono ?_);rintro e w2 ⟨rfl,hb⟩;have HB2:=Lib.hid (HBE.out.trans (hb.mono HBE.out.size));clear hb))
        go_roundw
        case rel=>exact⟨k+2,f,out++zaq d,by go_num,by rw[←HJ.out],by omega,by have:=HF.out;omega,HPL.out,HOB2.out,HR.out,HB2.out⟩
        case measure=>simp[intOf];omega
     ·obtain⟨b92,m92⟩:=zbd h92
      have hex:strL (s.extract k s.size)=(strL s).drop k:=by rw[zau,List.take_of_length_le (by rw[HL.out];exact Nat.le_refl _)]
      have HN:=Lib.hid (fun W:World=>refNext_any (s.extract k s.size) W (by rw[←zaX,hex,List.length_drop,HL.out];omega))
      rw[hex]at HN
      have hnb:=nx_bd ((strL s).drop k)
      have hnf:=zcK (l:=(strL s).drop k)
      have HSTEP:Hid (zah (strL s) i=if(nxL ((strL s).drop k)).1<0 then([],k,50)else zbW (strL s) f (k+(nxL ((strL s).drop k)).2) (out++((strL s).drop k).take (nxL ((strL s).drop k)).2)):=Lib.hid (by
       rw[HRUN.out,zbW,←hc,if_neg h32,if_neg h34,if_pos h92])
      obtain⟨x,hx⟩: ∃x,x=(nxL ((strL s).drop k)).1:=⟨_,rfl⟩
      obtain⟨n,hn⟩: ∃n,n=(nxL ((strL s).drop k)).2:=⟨_,rfl⟩
      rw[←hx,←hn]at HN hnb HSTEP hnf
      rw[List.length_drop,HL.out]at hnb hnf
      clear hx hn hex
      by_cases hxn:x<0
      ·have HR:Hid (zah (strL s) i=([],k,50)):=Lib.hid (by rw[HSTEP.out,if_pos hxn])
       clear hc h92 HSTEP hnf hnb
       go_wp2_with(first|(go_at_call 127;(with_reducible refine(HC1.out _).mono ?_);rintro e w' ⟨rfl,rfl⟩)|(go_at_call 158;(with_reducible refine(HN.out _).mono ?_);rintro e w2 ⟨rfl,hb⟩;have HB2:=Lib.hid (HBE.out.trans (hb.mono HBE.out.size));clear hb))
       go_ret3
       rw[HR.out]
       exact⟨rfl,HB2.out⟩
      ·obtain⟨_,_,n1,n2,n3,_,_⟩:=hnf (by omega)
       have HR:Hid (zah (strL s) i=zbW (strL s) f (k+n) (out++((strL s).drop k).take n)):=Lib.hid (by rw[HSTEP.out,if_neg hxn])
       have HPART:=Lib.hid (str_part s k n (by omega))
       have hpb:Bytes (((strL s).drop k).take n):=((zcj s).drop k).take n
       have HJ:Hid (toS out++s.extract k (k+n)=toS (out++((strL s).drop k).take n)):=Lib.hid (by rw[HPART.out];exact zcd HOB.out hpb)
       have HOB2:=Lib.hid (HOB.out.append hpb)
       have hes:(s.extract k (k+n)).size≤4:=by rw[HPART.out,zap,List.length_take];omega
       have hsum:(toS out).size+(s.extract k (k+n)).size≤9223372036854775807:=by rw[zap];omega
       have HPL:Hid ((out++((strL s).drop k).take n).length≤k+n):=Lib.hid (by rw[List.length_append,List.length_take];omega)
       obtain⟨U,hU⟩: ∃U,U=toS out:=⟨_,rfl⟩
       rw[←hU]at HJ hsum⊢
       clear hc h92 HSTEP hnf hnb hpb hes hU
       have hkn:(k:Int)+(n:Int)≤(s.size:Int):=by omega
       go_wp2_with(first|(go_at_call 127;(with_reducible refine(HC1.out _).mono ?_);rintro e w' ⟨rfl,rfl⟩)|(go_at_call 158;(with_reducible refine(HN.out _).mono ?_);rintro e w2 ⟨rfl,hb⟩;have HB2:=Lib.hid (HBE.out.trans (hb.mono HBE.out.size));clear hb))
       go_roundw
       case rel=>exact⟨k+n,f,out++((strL s).drop k).take n,by go_num,by rw[←HJ.out],by omega,by have:=HF.out;omega,HPL.out,HOB2.out,HR.out,HB2.out⟩
       case measure=>simp[intOf];omega
 ·have HR:Hid (zah (strL s) i=([],i,50)):=Lib.hid (by unfold zah;rw[←hq0,if_pos h34])
  have hb0:(q0==34)=false:=by rw[beq_eq_false_iff_ne];exact h34
  have hb0':(q0 !=34)=true:=by rw[bne,hb0];rfl
  clear hq0 h34
  go_enter Tryz.func131,Tryz.ntmps131
  go_wp2_with(go_at_call 127;refine(HC0.out _).mono ?_;rintro e w' ⟨rfl,rfl⟩)
  go_ret3
  rw[HR.out]
  exact⟨rfl,Below.refl _ _⟩
theorem zak {P:Program} {fn:Func} {p u1 u2 u3:Tmp} {ty:TypeId} (h:fn.results= #[.cell p ty,.tmp u1,.tmp u2,.tmp u3]) (tmps:Array Value) (w:World) (g:Nat) (t:TypeId) (cs:List Value) (de:TypeDesc)
  (hp:tmps.getD p undef= .pointer (some ⟨g,0,none⟩)) (hb:Blk w g t cs)
  (hu:P.underlying ty=some de) (hd:de.isRow=true) (hi:(P.info? ty).map (·.size)=some cs.length):
  (results fn tmps).run P w= .ok (.tuple #[.agg cs.toArray,tmps.getD u1 undef,tmps.getD u2 undef,tmps.getD u3 undef]) w:=by
 have hp':tmps[p]?.getD undef= .pointer (some ⟨g,0,none⟩):=by simpa using hp
 have hl:=run_loadVar_row w g t ty cs.toArray (0,0) de hb hu (by cases de<;>first|rfl|cases hd) (by simpa using hi)
 simp only[results,h]
 simp[Sem.run_bind,Result.andThen,hp',asAddr,hl]
def zbp (W:World) (r:VR) (e:Ending) (w':World):Prop:=
 ∃v,e= .returned (.tuple #[v,.int .i64 (r.2.1:Int),.int .i64 r.2.2.1,.int .i64 r.2.2.2])∧RepS w' (fun b=>W.heap.size≤b) r.1 v∧Below W.heap.size W w'
theorem zcf (s:ByteArray) (I:Int) (i:Nat) (w:World) (hI:I=(i:Int)) (hs:s.size≤9223372036854775807) (hi:i≤s.size):
  Calls Tryz.prog 95 #[.string s,.int .i64 I] w fun e w'=>e= .returned (.int .i64 (zaY (strL s) i:Nat))∧w=w':=by
 subst hI;exact zdf s i w hs hi
theorem zbY (W:World) (c1 c2:List Value):Blk ((W.alloc (.cells c1.toArray 27)).alloc (.cells c2.toArray 27)) W.heap.size 27 c1:=
 (zcb W rfl c1 _).grownN (World.grownBy_alloc _ _ none)
theorem zbj (W:World) (c1 c2:List Value):Blk ((W.alloc (.cells c1.toArray 27)).alloc (.cells c2.toArray 27)) (W.heap.size+1) 27 c2:=
 zcb (W.alloc _) (by simp) c2 _
theorem zbV (W:World) (c1 c2:List Value):Below W.heap.size W ((W.alloc (.cells c1.toArray 27)).alloc (.cells c2.toArray 27)):=((Below.refl _ _).alloc (Nat.le_refl _) _).alloc (by simp) _
theorem fin5 {W w1:World} (h:Below W.heap.size W w1) {y0 y1 y2 y3 y4:Value} (hb:Blk w1 W.heap.size 27 [y0,y1,y2,y3,y4]) (z0 z1 z2 z3 z4:Value):
  Blk (((((w1.setCell ⟨W.heap.size,0,none⟩ z0).setCell ⟨W.heap.size,1,none⟩ z1).setCell ⟨W.heap.size,2,none⟩ z2).setCell ⟨W.heap.size,3,none⟩ z3).setCell ⟨W.heap.size,4,none⟩ z4) W.heap.size 27 [z0,z1,z2,z3,z4]∧
  Below W.heap.size W (((((w1.setCell ⟨W.heap.size,0,none⟩ z0).setCell ⟨W.heap.size,1,none⟩ z1).setCell ⟨W.heap.size,2,none⟩ z2).setCell ⟨W.heap.size,3,none⟩ z3).setCell ⟨W.heap.size,4,none⟩ z4):=by
 refine⟨((((hb.setCell 0 z0).setCell 1 z1).setCell 2 z2).setCell 3 z3).setCell 4 z4,?_⟩
 have g: ∀{w:World} (i:Nat) (v:Value),Below W.heap.size W w→Below W.heap.size W (w.setCell ⟨W.heap.size,i,none⟩ v):=fun i v h=>h.grown (zaV _ _ i v) h.size (by intro k hk;injection hk with hk;omega)
 exact g 4 z4 (g 3 z3 (g 2 z2 (g 1 z1 (g 0 z0 h))))
theorem zbQ {B:Nat} {a w:World} (h:Below B a w):Below B a w.drew:=⟨h.os,h.tape,h.output,h.size,h.block⟩
theorem znV (s:ByteArray) (hs:s.size≤5000) (deep:Int) (mny:Nat→Int→VR) (i:Nat) (left:Int) (hi:i≤s.size) (hl0:0≤left) (hl:left≤256) (W:World) (hc:atL (strL s) i=110):
  Calls Tryz.prog 94 #[.string s,.int .i64 (i:Int),.int .i64 deep,.int .i64 left] W (zbp W (valF (strL s) mny i left)):=by
 have HL:=Lib.hid (zaX s)
 have HC:=Lib.hid (fun W:World=>zay s i W (by omega) (by omega))
 rw[hc]at HC
 have HW:=Lib.hid (fun W:World=>zgq s ⟨#[110,117,108,108]⟩ i W (by omega) (by decide) (by omega))
 have hwl:=zeb (l:=strL s) (x:=[110,117,108,108]) (i:=i) (by decide) (by rw[HL.out];exact hi)
 rw[show strL ⟨#[110,117,108,108]⟩=[110,117,108,108]from rfl]at HW
 have HR:Hid (valF (strL s) mny i left=if left-1<0 then(zeroJ,i,left-1,53)else zce (strL s) (left-1) zeroJ (zbq (strL s) i [110,117,108,108])):=Lib.hid (by
  unfold valF;rw[hc];rfl)
 obtain⟨p,hp⟩: ∃p,p=zbq (strL s) i [110,117,108,108]:=⟨_,rfl⟩
 rw[←hp]at HW hwl HR
 obtain⟨p,er⟩:=p
 rw[HL.out]at hwl
 simp only at HW hwl
 have HSK:=Lib.hid (fun W:World=>zdf s p W (by omega) hwl)
 clear hc hp
 by_cases h1:left-1<0
 ·have HR2:Hid (valF (strL s) mny i left=(zeroJ,i,left-1,53)):=Lib.hid (by rw[HR.out,if_pos h1])
  clear HR
  go_enter Tryz.func94,Tryz.ntmps94
  go_wp2_with(go_at_call 127;(with_reducible refine(HC.out _).mono ?_);rintro e w' ⟨rfl,rfl⟩)
  rw[HR2.out]
  refine bodyPost_ret (v:= .tuple #[.agg #[.int .i64 0,.int .i64 0,.string ⟨#[]⟩,.slice none 0 0,.slice none 0 0],.int .i64 (i:Int),.int .i64 (left-1),.int .i64 53]) (by simp[results,Tryz.results94,go_sem]) rfl ⟨_,rfl,RepS.zero _ _,?_⟩
  exact(Below.refl _ _).alloc (Nat.le_refl _) _
 ·by_cases he:er=0
  ·have HR2:Hid (valF (strL s) mny i left=(zeroJ,zaY (strL s) p,left-1,0)):=Lib.hid (by rw[HR.out,if_neg h1];unfold zce;rw[if_neg (by simp only;omega)])
   have hb:=(zbl he).1
   have hb2:=(zbl he).2
   clear HR he
   go_enter Tryz.func94,Tryz.ntmps94
   go_wp2_with(first
    |(go_at_call 127;(with_reducible refine(HC.out _).mono ?_);rintro e w' ⟨rfl,rfl⟩)
    |(go_at_call 130;(with_reducible refine(HW.out _).mono ?_);rintro e w1 ⟨rfl,hb⟩;have HB:=Lib.hid (below2 hb);have hb8:=Blk.below (zbY W zeros5 zeros5) hb (by simp;omega);have hb14:=Blk.below (zbj W zeros5 zeros5) hb (by simp);clear hb))
   obtain⟨a0,a1,a2,a3,a4⟩:w1.cell? ⟨W.heap.size,0,none⟩=some (.int .i64 0)∧w1.cell? ⟨W.heap.size,1,none⟩=some (.int .i64 0)∧w1.cell? ⟨W.heap.size,2,none⟩=some (.string ⟨#[]⟩)∧w1.cell? ⟨W.heap.size,3,none⟩=some (.slice none 0 0)∧w1.cell? ⟨W.heap.size,4,none⟩=some (.slice none 0 0):=⟨hb8.cell 0,hb8.cell 1,hb8.cell 2,hb8.cell 3,hb8.cell 4⟩
   obtain⟨f0,f1,f2,f3,f4⟩:w1.frozen? ⟨W.heap.size,0,none⟩=false∧w1.frozen? ⟨W.heap.size,1,none⟩=false∧w1.frozen? ⟨W.heap.size,2,none⟩=false∧w1.frozen? ⟨W.heap.size,3,none⟩=false∧w1.frozen? ⟨W.heap.size,4,none⟩=false:=⟨hb8.frozen 0,hb8.frozen 1,hb8.frozen 2,hb8.frozen 3,hb8.frozen 4⟩
   obtain⟨b0,b1,b2,b3,b4⟩:w1.cell? ⟨W.heap.size+1,0,none⟩=some (.int .i64 0)∧w1.cell? ⟨W.heap.size+1,1,none⟩=some (.int .i64 0)∧w1.cell? ⟨W.heap.size+1,2,none⟩=some (.string ⟨#[]⟩)∧w1.cell? ⟨W.heap.size+1,3,none⟩=some (.slice none 0 0)∧w1.cell? ⟨W.heap.size+1,4,none⟩=some (.slice none 0 0):=⟨hb14.cell 0,hb14.cell 1,hb14.cell 2,hb14.cell 3,hb14.cell 4⟩
   go_region_law(go_simp;go_at_call 95;(with_reducible refine(HSK.out _).mono ?_);rintro e w' ⟨rfl,rfl⟩)
   all_goals
    go_wp2_with fail
    simp only[List.getElem_toArray,List.getElem_cons_succ,List.getElem_cons_zero,Act.put,List.setIfInBounds_toArray,List.set_cons_succ,List.set_cons_zero]
    obtain⟨hA,hA2⟩:=fin5 HB.out hb8 (.int .i64 0) (.int .i64 0) (.string ⟨#[]⟩) (.slice none 0 0) (.slice none 0 0)
    obtain⟨hC,hC2⟩:=fin5 (zbQ HB.out) hb8.drew (.int .i64 0) (.int .i64 0) (.string ⟨#[]⟩) (.slice none 0 0) (.slice none 0 0)
    have hA':=hA.drew
    have hA2':=zbQ hA2
    refine bodyPost_ret (v:= .tuple #[.agg #[.int .i64 0,.int .i64 0,.string ⟨#[]⟩,.slice none 0 0,.slice none 0 0],.int .i64 (zaY (strL s) p:Nat),.int .i64 (left-1),.int .i64 0]) (zak Tryz.results94 _ _ W.heap.size _ [.int .i64 0,.int .i64 0,.string ⟨#[]⟩,.slice none 0 0,.slice none 0 0] _ rfl (by first|(with_reducible exact hA')|(with_reducible exact hC)) Tryz.underlying27 rfl zaa) rfl ?_
    rw[HR2.out]
    exact⟨_,rfl,RepS.zero _ _,(by first|(with_reducible exact hA2')|(with_reducible exact hC2))⟩
  ·have HR2:Hid (valF (strL s) mny i left=(zeroJ,p,left-1,er)):=Lib.hid (by rw[HR.out,if_neg h1];exact if_pos he)
   have hb:=(zbd he).1
   have hb2:=(zbd he).2
   clear HR he
   go_enter Tryz.func94,Tryz.ntmps94
   go_wp2_with(first
    |(go_at_call 127;(with_reducible refine(HC.out _).mono ?_);rintro e w' ⟨rfl,rfl⟩)
    |(go_at_call 130;(with_reducible refine(HW.out _).mono ?_);rintro e w1 ⟨rfl,hb⟩;have HB:=Lib.hid (below2 hb);have hb8:=Blk.below (zbY W zeros5 zeros5) hb (by simp;omega);have hb14:=Blk.below (zbj W zeros5 zeros5) hb (by simp);clear hb)
    |(refine zaQ rfl none rfl _ _ _ rfl W.heap.size 0 [.int .i64 0,.int .i64 0,.string ⟨#[]⟩,.slice none 0 0,.slice none 0 0] rfl rfl _ _ hb8 (by simp[zeros5]) zaa (by intro v hv;simp at hv;rcases hv with rfl|rfl|rfl|rfl|rfl<;>rfl) ?_;intro w5 hb5 hgr;rw[zaW _ _ (by simp[zeros5])]at hb5;have HB5:=Lib.hid (HB.out.grown hgr HB.out.size (by intro k hk;injection hk with hk;omega));clear hgr;try go_frame))
   refine bodyPost_ret (v:= .tuple #[.agg #[.int .i64 0,.int .i64 0,.string ⟨#[]⟩,.slice none 0 0,.slice none 0 0],.int .i64 (p:Int),.int .i64 (left-1),.int .i64 er]) (zak Tryz.results94 _ _ W.heap.size _ [.int .i64 0,.int .i64 0,.string ⟨#[]⟩,.slice none 0 0,.slice none 0 0] _ rfl hb5 Tryz.underlying27 rfl zaa) rfl ?_
   rw[HR2.out]
   exact⟨_,rfl,RepS.zero _ _,HB5.out⟩
theorem znJ (s:ByteArray) (hs:s.size≤5000) (deep:Int) (mny:Nat→Int→VR) (i:Nat) (left:Int) (hi:i≤s.size) (hl0:0≤left) (hl:left≤256) (W:World) (hc:atL (strL s) i=116):
  Calls Tryz.prog 94 #[.string s,.int .i64 (i:Int),.int .i64 deep,.int .i64 left] W (zbp W (valF (strL s) mny i left)):=by
 have HL:=Lib.hid (zaX s)
 have HC:=Lib.hid (fun W:World=>zay s i W (by omega) (by omega))
 rw[hc]at HC
 have HW:=Lib.hid (fun W:World=>zgq s ⟨#[116,114,117,101]⟩ i W (by omega) (by decide) (by omega))
 have hwl:=zeb (l:=strL s) (x:=[116,114,117,101]) (i:=i) (by decide) (by rw[HL.out];exact hi)
 rw[show strL ⟨#[116,114,117,101]⟩=[116,114,117,101]from rfl]at HW
 have HR:Hid (valF (strL s) mny i left=if left-1<0 then(zeroJ,i,left-1,53)else zce (strL s) (left-1) (.mk 1 1 ⟨#[]⟩ [] []) (zbq (strL s) i [116,114,117,101])):=Lib.hid (by
  unfold valF;rw[hc];rfl)
 obtain⟨p,hp⟩: ∃p,p=zbq (strL s) i [116,114,117,101]:=⟨_,rfl⟩
 rw[←hp]at HW hwl HR
 obtain⟨p,er⟩:=p
 rw[HL.out]at hwl
 simp only at HW hwl
 have HSK:=Lib.hid (fun W:World=>zdf s p W (by omega) hwl)
 clear hc hp
 by_cases h1:left-1<0
 ·have HR2:Hid (valF (strL s) mny i left=(zeroJ,i,left-1,53)):=Lib.hid (by rw[HR.out,if_pos h1])
  clear HR
  go_enter Tryz.func94,Tryz.ntmps94
  go_wp2_with(go_at_call 127;(with_reducible refine(HC.out _).mono ?_);rintro e w' ⟨rfl,rfl⟩)
  rw[HR2.out]
  refine bodyPost_ret (v:= .tuple #[.agg #[.int .i64 0,.int .i64 0,.string ⟨#[]⟩,.slice none 0 0,.slice none 0 0],.int .i64 (i:Int),.int .i64 (left-1),.int .i64 53]) (by simp[results,Tryz.results94,go_sem]) rfl ⟨_,rfl,RepS.zero _ _,?_⟩
  exact(Below.refl _ _).alloc (Nat.le_refl _) _
 ·by_cases he:er=0
  ·have HR2:Hid (valF (strL s) mny i left=((.mk 1 1 ⟨#[]⟩ [] []),zaY (strL s) p,left-1,0)):=Lib.hid (by rw[HR.out,if_neg h1];unfold zce;rw[if_neg (by simp only;omega)])
   obtain⟨hb,hb2⟩:=zbl he
   clear HR he
   go_enter Tryz.func94,Tryz.ntmps94
   go_wp2_with(first
    |(go_at_call 127;(with_reducible refine(HC.out _).mono ?_);rintro e w' ⟨rfl,rfl⟩)
    |(refine zaQ rfl none rfl _ (.tmp 14) _ rfl (W.heap.size+1) 0 [.int .i64 1,.int .i64 1,.string ⟨#[]⟩,.slice none 0 0,.slice none 0 0] rfl rfl _ _ (zbj W zeros5 zeros5) (by simp[zeros5]) zaa (by intro v hv;simp at hv;rcases hv with rfl|rfl|rfl|rfl|rfl<;>rfl) ?_;intro wS hb14s hgrs;rw[zaW _ _ (by simp[zeros5])]at hb14s;have hb8s:=Blk.grown (zbY W zeros5 zeros5) hgrs (by simp);have HBS:=Lib.hid (Below.grown (zbV W zeros5 zeros5) hgrs (Below.size (zbV W zeros5 zeros5)) (by intro k hk;injection hk with hk;omega));clear hgrs;try go_frame)
    |(go_at_call 130;(with_reducible refine(HW.out _).mono ?_);rintro e w1 ⟨rfl,hb⟩;have HB:=Lib.hid (Below.trans HBS.out (hb.mono (Below.size HBS.out)));have hb8:=Blk.below hb8s hb (Blk.lt hb8s);have hb14:=Blk.below hb14s hb (Blk.lt hb14s);clear hb))
   obtain⟨a0,a1,a2,a3,a4⟩:w1.cell? ⟨W.heap.size,0,none⟩=some (.int .i64 0)∧w1.cell? ⟨W.heap.size,1,none⟩=some (.int .i64 0)∧w1.cell? ⟨W.heap.size,2,none⟩=some (.string ⟨#[]⟩)∧w1.cell? ⟨W.heap.size,3,none⟩=some (.slice none 0 0)∧w1.cell? ⟨W.heap.size,4,none⟩=some (.slice none 0 0):=⟨hb8.cell 0,hb8.cell 1,hb8.cell 2,hb8.cell 3,hb8.cell 4⟩
   obtain⟨f0,f1,f2,f3,f4⟩:w1.frozen? ⟨W.heap.size,0,none⟩=false∧w1.frozen? ⟨W.heap.size,1,none⟩=false∧w1.frozen? ⟨W.heap.size,2,none⟩=false∧w1.frozen? ⟨W.heap.size,3,none⟩=false∧w1.frozen? ⟨W.heap.size,4,none⟩=false:=⟨hb8.frozen 0,hb8.frozen 1,hb8.frozen 2,hb8.frozen 3,hb8.frozen 4⟩
   obtain⟨b0,b1,b2,b3,b4⟩:w1.cell? ⟨W.heap.size+1,0,none⟩=some (.int .i64 1)∧w1.cell? ⟨W.heap.size+1,1,none⟩=some (.int .i64 1)∧w1.cell? ⟨W.heap.size+1,2,none⟩=some (.string ⟨#[]⟩)∧w1.cell? ⟨W.heap.size+1,3,none⟩=some (.slice none 0 0)∧w1.cell? ⟨W.heap.size+1,4,none⟩=some (.slice none 0 0):=⟨hb14.cell 0,hb14.cell 1,hb14.cell 2,hb14.cell 3,hb14.cell 4⟩
   go_region_law(go_simp;go_at_call 95;(with_reducible refine(HSK.out _).mono ?_);rintro e w' ⟨rfl,rfl⟩)
   all_goals
    go_wp2_with fail
    simp only[List.getElem_toArray,List.getElem_cons_succ,List.getElem_cons_zero,Act.put,List.setIfInBounds_toArray,List.set_cons_succ,List.set_cons_zero]
    obtain⟨hA,hA2⟩:=fin5 HB.out hb8 (.int .i64 1) (.int .i64 1) (.string ⟨#[]⟩) (.slice none 0 0) (.slice none 0 0)
    obtain⟨hC,hC2⟩:=fin5 (zbQ HB.out) hb8.drew (.int .i64 1) (.int .i64 1) (.string ⟨#[]⟩) (.slice none 0 0) (.slice none 0 0)
    have hA':=hA.drew
    have hA2':=zbQ hA2
    refine bodyPost_ret (v:= .tuple #[.agg #[.int .i64 1,.int .i64 1,.string ⟨#[]⟩,.slice none 0 0,.slice none 0 0],.int .i64 (zaY (strL s) p:Nat),.int .i64 (left-1),.int .i64 0]) (zak Tryz.results94 _ _ W.heap.size _ [.int .i64 1,.int .i64 1,.string ⟨#[]⟩,.slice none 0 0,.slice none 0 0] _ rfl (by first|(with_reducible exact hA')|(with_reducible exact hC)) Tryz.underlying27 rfl zaa) rfl ?_
    rw[HR2.out]
    exact⟨_,rfl,RepS.plain _ _ 1 1 _ (by decide),(by first|(with_reducible exact hA2')|(with_reducible exact hC2))⟩
  ·have HR2:Hid (valF (strL s) mny i left=(zeroJ,p,left-1,er)):=Lib.hid (by rw[HR.out,if_neg h1];exact if_pos he)
   obtain⟨hb,hb2⟩:=zbd he
   clear HR he
   go_enter Tryz.func94,Tryz.ntmps94
   go_wp2_with(first
    |(go_at_call 127;(with_reducible refine(HC.out _).mono ?_);rintro e w' ⟨rfl,rfl⟩)
    |(refine zaQ rfl none rfl _ (.tmp 14) _ rfl (W.heap.size+1) 0 [.int .i64 1,.int .i64 1,.string ⟨#[]⟩,.slice none 0 0,.slice none 0 0] rfl rfl _ _ (zbj W zeros5 zeros5) (by simp[zeros5]) zaa (by intro v hv;simp at hv;rcases hv with rfl|rfl|rfl|rfl|rfl<;>rfl) ?_;intro wS hb14s hgrs;rw[zaW _ _ (by simp[zeros5])]at hb14s;have hb8s:=Blk.grown (zbY W zeros5 zeros5) hgrs (by simp);have HBS:=Lib.hid (Below.grown (zbV W zeros5 zeros5) hgrs (Below.size (zbV W zeros5 zeros5)) (by intro k hk;injection hk with hk;omega));clear hgrs;try go_frame)
    |(go_at_call 130;(with_reducible refine(HW.out _).mono ?_);rintro e w1 ⟨rfl,hb⟩;have HB:=Lib.hid (Below.trans HBS.out (hb.mono (Below.size HBS.out)));have hb8:=Blk.below hb8s hb (Blk.lt hb8s);have hb14:=Blk.below hb14s hb (Blk.lt hb14s);clear hb)
    |(refine zaQ rfl none rfl _ (.tmp 8) _ rfl W.heap.size 0 [.int .i64 0,.int .i64 0,.string ⟨#[]⟩,.slice none 0 0,.slice none 0 0] rfl rfl _ _ hb8 (by simp[zeros5]) zaa (by intro v hv;simp at hv;rcases hv with rfl|rfl|rfl|rfl|rfl<;>rfl) ?_;intro w5 hb5 hgr;rw[zaW _ _ (by simp[zeros5])]at hb5;have HB5:=Lib.hid (Below.grown HB.out hgr (Below.size HB.out) (by intro k hk;injection hk with hk;omega));clear hgr;try go_frame))
   refine bodyPost_ret (v:= .tuple #[.agg #[.int .i64 0,.int .i64 0,.string ⟨#[]⟩,.slice none 0 0,.slice none 0 0],.int .i64 (p:Int),.int .i64 (left-1),.int .i64 er]) (zak Tryz.results94 _ _ W.heap.size _ [.int .i64 0,.int .i64 0,.string ⟨#[]⟩,.slice none 0 0,.slice none 0 0] _ rfl hb5 Tryz.underlying27 rfl zaa) rfl ?_
   rw[HR2.out]
   exact⟨_,rfl,RepS.zero _ _,HB5.out⟩
theorem zlW (s:ByteArray) (hs:s.size≤5000) (deep:Int) (mny:Nat→Int→VR) (i:Nat) (left:Int) (hi:i≤s.size) (hl0:0≤left) (hl:left≤256) (W:World) (hc:atL (strL s) i=102):
  Calls Tryz.prog 94 #[.string s,.int .i64 (i:Int),.int .i64 deep,.int .i64 left] W (zbp W (valF (strL s) mny i left)):=by
 have HL:=Lib.hid (zaX s)
 have HC:=Lib.hid (fun W:World=>zay s i W (by omega) (by omega))
 rw[hc]at HC
 have HW:=Lib.hid (fun W:World=>zgq s ⟨#[102,97,108,115,101]⟩ i W (by omega) (by decide) (by omega))
 have hwl:=zeb (l:=strL s) (x:=[102,97,108,115,101]) (i:=i) (by decide) (by rw[HL.out];exact hi)
 rw[show strL ⟨#[102,97,108,115,101]⟩=[102,97,108,115,101]from rfl]at HW
 have HR:Hid (valF (strL s) mny i left=if left-1<0 then(zeroJ,i,left-1,53)else zce (strL s) (left-1) (.mk 1 0 ⟨#[]⟩ [] []) (zbq (strL s) i [102,97,108,115,101])):=Lib.hid (by
  unfold valF;rw[hc];rfl)
 obtain⟨p,hp⟩: ∃p,p=zbq (strL s) i [102,97,108,115,101]:=⟨_,rfl⟩
 rw[←hp]at HW hwl HR
 obtain⟨p,er⟩:=p
 rw[HL.out]at hwl
 simp only at HW hwl
 have HSK:=Lib.hid (fun W:World=>zdf s p W (by omega) hwl)
 clear hc hp
 by_cases h1:left-1<0
 ·have HR2:Hid (valF (strL s) mny i left=(zeroJ,i,left-1,53)):=Lib.hid (by rw[HR.out,if_pos h1])
  clear HR
  go_enter Tryz.func94,Tryz.ntmps94
  go_wp2_with(go_at_call 127;(with_reducible refine(HC.out _).mono ?_);rintro e w' ⟨rfl,rfl⟩)
  rw[HR2.out]
  refine bodyPost_ret (v:= .tuple #[.agg #[.int .i64 0,.int .i64 0,.string ⟨#[]⟩,.slice none 0 0,.slice none 0 0],.int .i64 (i:Int),.int .i64 (left-1),.int .i64 53]) (by simp[results,Tryz.results94,go_sem]) rfl ⟨_,rfl,RepS.zero _ _,?_⟩
  exact(Below.refl _ _).alloc (Nat.le_refl _) _
 ·by_cases he:er=0
  ·have HR2:Hid (valF (strL s) mny i left=((.mk 1 0 ⟨#[]⟩ [] []),zaY (strL s) p,left-1,0)):=Lib.hid (by rw[HR.out,if_neg h1];unfold zce;rw[if_neg (by simp only;omega)])
   obtain⟨hb,hb2⟩:=zbl he
   clear HR he
   go_enter Tryz.func94,Tryz.ntmps94
   go_wp2_with(first
    |(go_at_call 127;(with_reducible refine(HC.out _).mono ?_);rintro e w' ⟨rfl,rfl⟩)
    |(refine zaQ rfl none rfl _ (.tmp 14) _ rfl (W.heap.size+1) 0 [.int .i64 1,.int .i64 0,.string ⟨#[]⟩,.slice none 0 0,.slice none 0 0] rfl rfl _ _ (zbj W zeros5 zeros5) (by simp[zeros5]) zaa (by intro v hv;simp at hv;rcases hv with rfl|rfl|rfl|rfl|rfl<;>rfl) ?_;intro wS hb14s hgrs;rw[zaW _ _ (by simp[zeros5])]at hb14s;have hb8s:=Blk.grown (zbY W zeros5 zeros5) hgrs (by simp);have HBS:=Lib.hid (Below.grown (zbV W zeros5 zeros5) hgrs (Below.size (zbV W zeros5 zeros5)) (by intro k hk;injection hk with hk;omega));clear hgrs;try go_frame)
    |(go_at_call 130;(with_reducible refine(HW.out _).mono ?_);rintro e w1 ⟨rfl,hb⟩;have HB:=Lib.hid (Below.trans HBS.out (hb.mono (Below.size HBS.out)));have hb8:=Blk.below hb8s hb (Blk.lt hb8s);have hb14:=Blk.below hb14s hb (Blk.lt hb14s);clear hb))
   obtain⟨a0,a1,a2,a3,a4⟩:w1.cell? ⟨W.heap.size,0,none⟩=some (.int .i64 0)∧w1.cell? ⟨W.heap.size,1,none⟩=some (.int .i64 0)∧w1.cell? ⟨W.heap.size,2,none⟩=some (.string ⟨#[]⟩)∧w1.cell? ⟨W.heap.size,3,none⟩=some (.slice none 0 0)∧w1.cell? ⟨W.heap.size,4,none⟩=some (.slice none 0 0):=⟨hb8.cell 0,hb8.cell 1,hb8.cell 2,hb8.cell 3,hb8.cell 4⟩
   obtain⟨f0,f1,f2,f3,f4⟩:w1.frozen? ⟨W.heap.size,0,none⟩=false∧w1.frozen? ⟨W.heap.size,1,none⟩=false∧w1.frozen? ⟨W.heap.size,2,none⟩=false∧w1.frozen? ⟨W.heap.size,3,none⟩=false∧w1.frozen? ⟨W.heap.size,4,none⟩=false:=⟨hb8.frozen 0,hb8.frozen 1,hb8.frozen 2,hb8.frozen 3,hb8.frozen 4⟩
   obtain⟨b0,b1,b2,b3,b4⟩:w1.cell? ⟨W.heap.size+1,0,none⟩=some (.int .i64 1)∧w1.cell? ⟨W.heap.size+1,1,none⟩=some (.int .i64 0)∧w1.cell? ⟨W.heap.size+1,2,none⟩=some (.string ⟨#[]⟩)∧w1.cell? ⟨W.heap.size+1,3,none⟩=some (.slice none 0 0)∧w1.cell? ⟨W.heap.size+1,4,none⟩=some (.slice none 0 0):=⟨hb14.cell 0,hb14.cell 1,hb14.cell 2,hb14.cell 3,hb14.cell 4⟩
   go_region_law(go_simp;go_at_call 95;(with_reducible refine(HSK.out _).mono ?_);rintro e w' ⟨rfl,rfl⟩)
   all_goals
    go_wp2_with fail
    simp only[List.getElem_toArray,List.getElem_cons_succ,List.getElem_cons_zero,Act.put,List.setIfInBounds_toArray,List.set_cons_succ,List.set_cons_zero]
    obtain⟨hA,hA2⟩:=fin5 HB.out hb8 (.int .i64 1) (.int .i64 0) (.string ⟨#[]⟩) (.slice none 0 0) (.slice none 0 0)
    obtain⟨hC,hC2⟩:=fin5 (zbQ HB.out) hb8.drew (.int .i64 1) (.int .i64 0) (.string ⟨#[]⟩) (.slice none 0 0) (.slice none 0 0)
    have hA':=hA.drew
    have hA2':=zbQ hA2
    refine bodyPost_ret (v:= .tuple #[.agg #[.int .i64 1,.int .i64 0,.string ⟨#[]⟩,.slice none 0 0,.slice none 0 0],.int .i64 (zaY (strL s) p:Nat),.int .i64 (left-1),.int .i64 0]) (zak Tryz.results94 _ _ W.heap.size _ [.int .i64 1,.int .i64 0,.string ⟨#[]⟩,.slice none 0 0,.slice none 0 0] _ rfl (by first|(with_reducible exact hA')|(with_reducible exact hC)) Tryz.underlying27 rfl zaa) rfl ?_
    rw[HR2.out]
    exact⟨_,rfl,RepS.plain _ _ 1 0 _ (by decide),(by first|(with_reducible exact hA2')|(with_reducible exact hC2))⟩
  ·have HR2:Hid (valF (strL s) mny i left=(zeroJ,p,left-1,er)):=Lib.hid (by rw[HR.out,if_neg h1];exact if_pos he)
   obtain⟨hb,hb2⟩:=zbd he
   clear HR he
   go_enter Tryz.func94,Tryz.ntmps94
   go_wp2_with(first
    |(go_at_call 127;(with_reducible refine(HC.out _).mono ?_);rintro e w' ⟨rfl,rfl⟩)
    |(refine zaQ rfl none rfl _ (.tmp 14) _ rfl (W.heap.size+1) 0 [.int .i64 1,.int .i64 0,.string ⟨#[]⟩,.slice none 0 0,.slice none 0 0] rfl rfl _ _ (zbj W zeros5 zeros5) (by simp[zeros5]) zaa (by intro v hv;simp at hv;rcases hv with rfl|rfl|rfl|rfl|rfl<;>rfl) ?_;intro wS hb14s hgrs;rw[zaW _ _ (by simp[zeros5])]at hb14s;have hb8s:=Blk.grown (zbY W zeros5 zeros5) hgrs (by simp);have HBS:=Lib.hid (Below.grown (zbV W zeros5 zeros5) hgrs (Below.size (zbV W zeros5 zeros5)) (by intro k hk;injection hk with hk;omega));clear hgrs;try go_frame)
    |(go_at_call 130;(with_reducible refine(HW.out _).mono ?_);rintro e w1 ⟨rfl,hb⟩;have HB:=Lib.hid (Below.trans HBS.out (hb.mono (Below.size HBS.out)));have hb8:=Blk.below hb8s hb (Blk.lt hb8s);have hb14:=Blk.below hb14s hb (Blk.lt hb14s);clear hb)
    |(refine zaQ rfl none rfl _ (.tmp 8) _ rfl W.heap.size 0 [.int .i64 0,.int .i64 0,.string ⟨#[]⟩,.slice none 0 0,.slice none 0 0] rfl rfl _ _ hb8 (by simp[zeros5]) zaa (by intro v hv;simp at hv;rcases hv with rfl|rfl|rfl|rfl|rfl<;>rfl) ?_;intro w5 hb5 hgr;rw[zaW _ _ (by simp[zeros5])]at hb5;have HB5:=Lib.hid (Below.grown HB.out hgr (Below.size HB.out) (by intro k hk;injection hk with hk;omega));clear hgr;try go_frame))
   refine bodyPost_ret (v:= .tuple #[.agg #[.int .i64 0,.int .i64 0,.string ⟨#[]⟩,.slice none 0 0,.slice none 0 0],.int .i64 (p:Int),.int .i64 (left-1),.int .i64 er]) (zak Tryz.results94 _ _ W.heap.size _ [.int .i64 0,.int .i64 0,.string ⟨#[]⟩,.slice none 0 0,.slice none 0 0] _ rfl hb5 Tryz.underlying27 rfl zaa) rfl ?_
   rw[HR2.out]
   exact⟨_,rfl,RepS.zero _ _,HB5.out⟩
theorem znK (s:ByteArray) (hs:s.size≤5000) (deep:Int) (mny:Nat→Int→VR) (i:Nat) (left:Int) (hi:i≤s.size) (hl0:0≤left) (hl:left≤256) (W:World) (hc:atL (strL s) i=34):
  Calls Tryz.prog 94 #[.string s,.int .i64 (i:Int),.int .i64 deep,.int .i64 left] W (zbp W (valF (strL s) mny i left)):=by
 have HL:=Lib.hid (zaX s)
 have HC:=Lib.hid (fun W:World=>zay s i W (by omega) (by omega))
 rw[hc]at HC
 have HW:=Lib.hid (fun W:World=>zhe s i W (by omega) (by omega))
 have hwl:=zct (strL s) i
 have hts:=zfW (strL s) i
 have HR:Hid (valF (strL s) mny i left=if left-1<0 then(zeroJ,i,left-1,53)else zce (strL s) (left-1) (.mk 3 0 (toS (zah (strL s) i).1) [] []) (zah (strL s) i).2):=Lib.hid (by
  unfold valF;rw[hc];rfl)
 obtain⟨r,hr⟩: ∃r,r=zah (strL s) i:=⟨_,rfl⟩
 rw[←hr]at HW hwl HR hts
 obtain⟨t,p,er⟩:=r
 rw[HL.out]at hwl hts
 simp only at HW hwl hts
 obtain⟨T,hT⟩: ∃T,T=toS t:=⟨_,rfl⟩
 have HTS:Hid (T.size≤9223372036854775807):=Lib.hid (by rw[hT,zap];omega)
 simp only at HR
 rw[←hT]at HW HR
 clear hc hr hT hts
 by_cases h1:left-1<0
 ·have HR2:Hid (valF (strL s) mny i left=(zeroJ,i,left-1,53)):=Lib.hid (by rw[HR.out,if_pos h1])
  clear HR
  go_enter Tryz.func94,Tryz.ntmps94
  go_wp2_with(go_at_call 127;(with_reducible refine(HC.out _).mono ?_);rintro e w' ⟨rfl,rfl⟩)
  rw[HR2.out]
  refine bodyPost_ret (v:= .tuple #[.agg #[.int .i64 0,.int .i64 0,.string ⟨#[]⟩,.slice none 0 0,.slice none 0 0],.int .i64 (i:Int),.int .i64 (left-1),.int .i64 53]) (by simp[results,Tryz.results94,go_sem]) rfl ⟨_,rfl,RepS.zero _ _,?_⟩
  exact(Below.refl _ _).alloc (Nat.le_refl _) _
 ·by_cases he:er=0
  ·have HR2:Hid (valF (strL s) mny i left=(.mk 3 0 T [] [],zaY (strL s) p,left-1,0)):=Lib.hid (by rw[HR.out,if_neg h1];unfold zce;rw[if_neg (by simp only;omega)])
   have HSK:=Lib.hid (fun W:World=>zdf s p W (by omega) (hwl he))
   obtain⟨hb,hb2⟩:=zbl he
   clear HR he hwl
   go_enter Tryz.func94,Tryz.ntmps94
   go_wp2_with(first
    |(go_at_call 127;(with_reducible refine(HC.out _).mono ?_);rintro e w' ⟨rfl,rfl⟩)
    |(go_at_call 131;(with_reducible refine(HW.out _).mono ?_);rintro e w1 ⟨rfl,hb⟩;have HB:=Lib.hid (Below.trans (zbV W zeros5 zeros5) (hb.mono (Below.size (zbV W zeros5 zeros5))));have hb8:=Blk.below (zbY W zeros5 zeros5) hb (Blk.lt (zbY W zeros5 zeros5));have hb14:=Blk.below (zbj W zeros5 zeros5) hb (Blk.lt (zbj W zeros5 zeros5));clear hb)
    |(refine zaQ rfl none rfl _ (.tmp 14) _ rfl (W.heap.size+1) 0 [.int .i64 3,.int .i64 0,.string T,.slice none 0 0,.slice none 0 0] rfl rfl _ _ hb14 (by simp[zeros5]) zaa (by intro v hv;simp at hv;rcases hv with rfl|rfl|rfl|rfl|rfl<;>rfl) ?_;intro w2 hb14s hgrs;rw[zaW _ _ (by simp[zeros5])]at hb14s;have hb8s:=Blk.grown hb8 hgrs (by simp);have HBS:=Lib.hid (Below.grown HB.out hgrs (Below.size HB.out) (by intro k hk;injection hk with hk;omega));clear hgrs;try go_frame))
   obtain⟨a0,a1,a2,a3,a4⟩:w2.cell? ⟨W.heap.size,0,none⟩=some (.int .i64 0)∧w2.cell? ⟨W.heap.size,1,none⟩=some (.int .i64 0)∧w2.cell? ⟨W.heap.size,2,none⟩=some (.string ⟨#[]⟩)∧w2.cell? ⟨W.heap.size,3,none⟩=some (.slice none 0 0)∧w2.cell? ⟨W.heap.size,4,none⟩=some (.slice none 0 0):=⟨hb8s.cell 0,hb8s.cell 1,hb8s.cell 2,hb8s.cell 3,hb8s.cell 4⟩
   obtain⟨f0,f1,f2,f3,f4⟩:w2.frozen? ⟨W.heap.size,0,none⟩=false∧w2.frozen? ⟨W.heap.size,1,none⟩=false∧w2.frozen? ⟨W.heap.size,2,none⟩=false∧w2.frozen? ⟨W.heap.size,3,none⟩=false∧w2.frozen? ⟨W.heap.size,4,none⟩=false:=⟨hb8s.frozen 0,hb8s.frozen 1,hb8s.frozen 2,hb8s.frozen 3,hb8s.frozen 4⟩
   obtain⟨b0,b1,b2,b3,b4⟩:w2.cell? ⟨W.heap.size+1,0,none⟩=some (.int .i64 3)∧w2.cell? ⟨W.heap.size+1,1,none⟩=some (.int .i64 0)∧w2.cell? ⟨W.heap.size+1,2,none⟩=some (.string T)∧w2.cell? ⟨W.heap.size+1,3,none⟩=some (.slice none 0 0)∧w2.cell? ⟨W.heap.size+1,4,none⟩=some (.slice none 0 0):=⟨hb14s.cell 0,hb14s.cell 1,hb14s.cell 2,hb14s.cell 3,hb14s.cell 4⟩
   go_region_law(go_simp;go_at_call 95;(with_reducible refine(HSK.out _).mono ?_);rintro e w' ⟨rfl,rfl⟩)
   all_goals
    go_wp2_with fail
    simp only[List.getElem_toArray,List.getElem_cons_succ,List.getElem_cons_zero,Act.put,List.setIfInBounds_toArray,List.set_cons_succ,List.set_cons_zero]
    obtain⟨hA,hA2⟩:=fin5 HBS.out hb8s (.int .i64 3) (.int .i64 0) (.string T) (.slice none 0 0) (.slice none 0 0)
    obtain⟨hC,hC2⟩:=fin5 (zbQ HBS.out) hb8s.drew (.int .i64 3) (.int .i64 0) (.string T) (.slice none 0 0) (.slice none 0 0)
    have hA':=hA.drew
    have hA2':=zbQ hA2
    refine bodyPost_ret (v:= .tuple #[.agg #[.int .i64 3,.int .i64 0,.string T,.slice none 0 0,.slice none 0 0],.int .i64 (zaY (strL s) p:Nat),.int .i64 (left-1),.int .i64 0]) (zak Tryz.results94 _ _ W.heap.size _ [.int .i64 3,.int .i64 0,.string T,.slice none 0 0,.slice none 0 0] _ rfl (by first|(with_reducible exact hA')|(with_reducible exact hC)) Tryz.underlying27 rfl zaa) rfl ?_
    rw[HR2.out]
    exact⟨_,rfl,RepS.plain _ _ 3 0 _ HTS.out,(by first|(with_reducible exact hA2')|(with_reducible exact hC2))⟩
  ·have HR2:Hid (valF (strL s) mny i left=(zeroJ,p,left-1,er)):=Lib.hid (by rw[HR.out,if_neg h1];exact if_pos he)
   obtain⟨hb,hb2⟩:=zbd he
   clear HR he hwl
   go_enter Tryz.func94,Tryz.ntmps94
   go_wp2_with(first
    |(go_at_call 127;(with_reducible refine(HC.out _).mono ?_);rintro e w' ⟨rfl,rfl⟩)
    |(go_at_call 131;(with_reducible refine(HW.out _).mono ?_);rintro e w1 ⟨rfl,hb⟩;have HB:=Lib.hid (Below.trans (zbV W zeros5 zeros5) (hb.mono (Below.size (zbV W zeros5 zeros5))));have hb8:=Blk.below (zbY W zeros5 zeros5) hb (Blk.lt (zbY W zeros5 zeros5));have hb14:=Blk.below (zbj W zeros5 zeros5) hb (Blk.lt (zbj W zeros5 zeros5));clear hb)
    |(refine zaQ rfl none rfl _ (.tmp 14) _ rfl (W.heap.size+1) 0 [.int .i64 3,.int .i64 0,.string T,.slice none 0 0,.slice none 0 0] rfl rfl _ _ hb14 (by simp[zeros5]) zaa (by intro v hv;simp at hv;rcases hv with rfl|rfl|rfl|rfl|rfl<;>rfl) ?_;intro w2 hb14s hgrs;rw[zaW _ _ (by simp[zeros5])]at hb14s;have hb8s:=Blk.grown hb8 hgrs (by simp);have HBS:=Lib.hid (Below.grown HB.out hgrs (Below.size HB.out) (by intro k hk;injection hk with hk;omega));clear hgrs;try go_frame)
    |(refine zaQ rfl none rfl _ (.tmp 8) _ rfl W.heap.size 0 [.int .i64 0,.int .i64 0,.string ⟨#[]⟩,.slice none 0 0,.slice none 0 0] rfl rfl _ _ hb8s (by simp[zeros5]) zaa (by intro v hv;simp at hv;rcases hv with rfl|rfl|rfl|rfl|rfl<;>rfl) ?_;intro w5 hb5 hgr;rw[zaW _ _ (by simp[zeros5])]at hb5;have HB5:=Lib.hid (Below.grown HBS.out hgr (Below.size HBS.out) (by intro k hk;injection hk with hk;omega));clear hgr;try go_frame))
   refine bodyPost_ret (v:= .tuple #[.agg #[.int .i64 0,.int .i64 0,.string ⟨#[]⟩,.slice none 0 0,.slice none 0 0],.int .i64 (p:Int),.int .i64 (left-1),.int .i64 er]) (zak Tryz.results94 _ _ W.heap.size _ [.int .i64 0,.int .i64 0,.string ⟨#[]⟩,.slice none 0 0,.slice none 0 0] _ rfl hb5 Tryz.underlying27 rfl zaa) rfl ?_
   rw[HR2.out]
   exact⟨_,rfl,RepS.zero _ _,HB5.out⟩
theorem zil (s:ByteArray) (hs:s.size≤5000) (deep:Int) (mny:Nat→Int→VR) (i:Nat) (left:Int) (hi:i≤s.size) (hl0:0≤left) (hl:left≤256) (W:World) (hc:atL (strL s) i=45∨(48≤atL (strL s) i∧atL (strL s) i≤57)):
  Calls Tryz.prog 94 #[.string s,.int .i64 (i:Int),.int .i64 deep,.int .i64 left] W (zbp W (valF (strL s) mny i left)):=by
 have HL:=Lib.hid (zaX s)
 have HC:=Lib.hid (fun W:World=>zay s i W (by omega) (by omega))
 have hlt:i<s.size:=by rw[←HL.out];exact zav (by omega)
 have hex:strL (s.extract i s.size)=(strL s).drop i:=by rw[zau,List.take_of_length_le (by rw[HL.out];exact Nat.le_refl _)]
 have hles:=zef ((strL s).drop i)
 rw[List.length_drop,HL.out]at hles
 have HLE:=Lib.hid (fun W:World=>zjz (s.extract i s.size) W (by rw[←zaX,hex,List.length_drop,HL.out];omega))
 rw[hex]at HLE
 have hbg:zbJ (atL (strL s) i)=true:=by unfold zbJ;rw[decide_eq_true_eq];omega
 have HR:Hid (valF (strL s) mny i left=if left-1<0 then(zeroJ,i,left-1,53)else if zat ((strL s).drop i)=0 then(zeroJ,i+1,left-1,50)
   else if fitL (((strL s).drop i).take (zat ((strL s).drop i))) (-9007199254740991) 9007199254740991=true then(.mk 2 (numL (((strL s).drop i).take (zat ((strL s).drop i)))) ⟨#[]⟩ [] [],zaY (strL s) (i+zat ((strL s).drop i)),left-1,0)
   else(zeroJ,i,left-1,41)):=Lib.hid (by
  unfold valF
  rw[if_neg (by rw[hbg];simp),if_pos hc])
 obtain⟨n,hn⟩: ∃n,n=zat ((strL s).drop i):=⟨_,rfl⟩
 rw[←hn]at HLE HR hles
 have HSK:=Lib.hid (fun W:World=>zcf s ((i:Int)+(n:Int)) (i+n) W (by omega) (by omega) (by omega))
 have HPART:=Lib.hid (str_part s i n (by omega))
 have hps:(s.extract i (i+n)).size≤5000:=by rw[HPART.out,zap,List.length_take];omega
 have hpl:strL (s.extract i (i+n))=((strL s).drop i).take n:=by rw[HPART.out];exact zbo (((zcj s).drop i).take n)
 have HRD:=Lib.hid (fun W:World=>refRead_anyN (s.extract i (i+n)) (-9007199254740991) 9007199254740991 W (by omega) (by decide) (by decide))
 rw[hpl]at HRD
 have HFORM:Hid (n≠0→zbe (((strL s).drop i).take n)=true):=Lib.hid (fun h=>by rw[hn];exact zgf (by rw[←hn];exact h))
 obtain⟨D,hD⟩: ∃D,D=((strL s).drop i).take n:=⟨_,rfl⟩
 rw[←hD]at HRD HR HFORM
 obtain⟨N,hN⟩: ∃N,N=numL D:=⟨_,rfl⟩
 rw[←hN]at HR
 have HNN:=Lib.hid hN
 clear hn hD hps hpl hbg hex hN
 obtain⟨c,hcc⟩: ∃c,c=atL (strL s) i:=⟨_,rfl⟩
 rw[←hcc]at HC hc
 clear hcc
 have hkn:(i:Int)+(n:Int)≤(s.size:Int):=by omega
 rcases hc with rfl|⟨hc0,hc1⟩
 ·by_cases h1:left-1<0
  ·have HR2:Hid (valF (strL s) mny i left=(zeroJ,i,left-1,53)):=Lib.hid (by rw[HR.out,if_pos h1])
   clear HR
   go_enter Tryz.func94,Tryz.ntmps94
   go_wp2_with(go_at_call 127;(with_reducible refine(HC.out _).mono ?_);rintro e w' ⟨rfl,rfl⟩)
   rw[HR2.out]
   refine bodyPost_ret (v:= .tuple #[.agg #[.int .i64 0,.int .i64 0,.string ⟨#[]⟩,.slice none 0 0,.slice none 0 0],.int .i64 (i:Int),.int .i64 (left-1),.int .i64 53]) (by simp[results,Tryz.results94,go_sem]) rfl ⟨_,rfl,RepS.zero _ _,?_⟩
   exact(Below.refl _ _).alloc (Nat.le_refl _) _
  ·by_cases hn0:n=0
   ·subst hn0
    have HR2:Hid (valF (strL s) mny i left=(zeroJ,i+1,left-1,50)):=Lib.hid (by rw[HR.out,if_neg h1,if_pos rfl])
    clear HR
    go_enter Tryz.func94,Tryz.ntmps94
    go_wp2_with(first
     |(go_at_call 127;(with_reducible refine(HC.out _).mono ?_);rintro e w' ⟨rfl,rfl⟩)
     |(go_at_call 128;(with_reducible refine(HLE.out _).mono ?_);rintro e w' ⟨rfl,rfl⟩))
    rw[HR2.out]
    refine bodyPost_ret (v:= .tuple #[.agg #[.int .i64 0,.int .i64 0,.string ⟨#[]⟩,.slice none 0 0,.slice none 0 0],.int .i64 ((i:Int)+1),.int .i64 (left-1),.int .i64 50]) (by simp[results,Tryz.results94,go_sem]) rfl ⟨_,?_,RepS.zero _ _,?_⟩
    ·congr 3
    ·exact((Below.refl _ _).alloc (Nat.le_refl _) _).alloc (by simp) _
   ·have hnb:=(zbd (show(n:Int)≠0 by omega)).1
    cases hf:fitL D (-9007199254740991) 9007199254740991 with
    |false=>
     have HR2:Hid (valF (strL s) mny i left=(zeroJ,i,left-1,41)):=Lib.hid (by rw[HR.out,if_neg h1,if_neg hn0,hf,if_neg (by decide)])
     rw[show zgd D (-9007199254740991) 9007199254740991= .tuple #[.int .i64 0,.int .i64 41,.int .i64 (-1)]by unfold zgd;rw[if_pos (HFORM.out hn0),hf,if_neg (by decide)]]at HRD
     clear HR hn0 hf
     go_enter Tryz.func94,Tryz.ntmps94
     go_wp2_with(first
      |(go_at_call 127;(with_reducible refine(HC.out _).mono ?_);rintro e w' ⟨rfl,rfl⟩)
      |(go_at_call 128;(with_reducible refine(HLE.out _).mono ?_);rintro e w' ⟨rfl,rfl⟩)
      |(go_at_call 129;(with_reducible refine(HRD.out _).mono ?_);rintro e w' ⟨rfl,rfl⟩))
     rw[HR2.out]
     refine bodyPost_ret (v:= .tuple #[.agg #[.int .i64 0,.int .i64 0,.string ⟨#[]⟩,.slice none 0 0,.slice none 0 0],.int .i64 (i:Int),.int .i64 (left-1),.int .i64 41]) (by simp[results,Tryz.results94,go_sem]) rfl ⟨_,rfl,RepS.zero _ _,?_⟩
     exact((Below.refl _ _).alloc (Nat.le_refl _) _).alloc (by simp) _
    |true=>
     have HR2:Hid (valF (strL s) mny i left=(.mk 2 N ⟨#[]⟩ [] [],zaY (strL s) (i+n),left-1,0)):=Lib.hid (by rw[HR.out,if_neg h1,if_neg hn0,hf,if_pos rfl])
     rw[show zgd D (-9007199254740991) 9007199254740991= .tuple #[.int .i64 N,.int .i64 0,.int .i64 (-1)]by unfold zgd;rw[if_pos (HFORM.out hn0),hf,if_pos rfl,←HNN.out]]at HRD
     clear HR hn0 hf
     go_enter Tryz.func94,Tryz.ntmps94
     go_wp2_with(first
      |(go_at_call 127;(with_reducible refine(HC.out _).mono ?_);rintro e w' ⟨rfl,rfl⟩)
      |(go_at_call 128;(with_reducible refine(HLE.out _).mono ?_);rintro e w' ⟨rfl,rfl⟩)
      |(go_at_call 129;(with_reducible refine(HRD.out _).mono ?_);rintro e w' ⟨rfl,rfl⟩)
      |(refine zaQ rfl none rfl _ (.tmp 14) _ rfl (W.heap.size+1) 0 [.int .i64 2,.int .i64 N,.string ⟨#[]⟩,.slice none 0 0,.slice none 0 0] rfl rfl _ _ (zbj W zeros5 zeros5) (by simp[zeros5]) zaa (by intro v hv;simp at hv;rcases hv with rfl|rfl|rfl|rfl|rfl<;>rfl) ?_;intro w1 hb14s hgrs;rw[zaW _ _ (by simp[zeros5])]at hb14s;have hb8s:=Blk.grown (zbY W zeros5 zeros5) hgrs (by simp);have HBS:=Lib.hid (Below.grown (zbV W zeros5 zeros5) hgrs (Below.size (zbV W zeros5 zeros5)) (by intro k hk;injection hk with hk;omega));clear hgrs;try go_frame))
     obtain⟨a0,a1,a2,a3,a4⟩:w1.cell? ⟨W.heap.size,0,none⟩=some (.int .i64 0)∧w1.cell? ⟨W.heap.size,1,none⟩=some (.int .i64 0)∧w1.cell? ⟨W.heap.size,2,none⟩=some (.string ⟨#[]⟩)∧w1.cell? ⟨W.heap.size,3,none⟩=some (.slice none 0 0)∧w1.cell? ⟨W.heap.size,4,none⟩=some (.slice none 0 0):=⟨hb8s.cell 0,hb8s.cell 1,hb8s.cell 2,hb8s.cell 3,hb8s.cell 4⟩
     obtain⟨f0,f1,f2,f3,f4⟩:w1.frozen? ⟨W.heap.size,0,none⟩=false∧w1.frozen? ⟨W.heap.size,1,none⟩=false∧w1.frozen? ⟨W.heap.size,2,none⟩=false∧w1.frozen? ⟨W.heap.size,3,none⟩=false∧w1.frozen? ⟨W.heap.size,4,none⟩=false:=⟨hb8s.frozen 0,hb8s.frozen 1,hb8s.frozen 2,hb8s.frozen 3,hb8s.frozen 4⟩
     obtain⟨b0,b1,b2,b3,b4⟩:w1.cell? ⟨W.heap.size+1,0,none⟩=some (.int .i64 2)∧w1.cell? ⟨W.heap.size+1,1,none⟩=some (.int .i64 N)∧w1.cell? ⟨W.heap.size+1,2,none⟩=some (.string ⟨#[]⟩)∧w1.cell? ⟨W.heap.size+1,3,none⟩=some (.slice none 0 0)∧w1.cell? ⟨W.heap.size+1,4,none⟩=some (.slice none 0 0):=⟨hb14s.cell 0,hb14s.cell 1,hb14s.cell 2,hb14s.cell 3,hb14s.cell 4⟩
     go_region_law(go_simp;go_at_call 95;(with_reducible refine(HSK.out _).mono ?_);rintro e w' ⟨rfl,rfl⟩)
     all_goals
      go_wp2_with fail
      simp only[List.getElem_toArray,List.getElem_cons_succ,List.getElem_cons_zero,Act.put,List.setIfInBounds_toArray,List.set_cons_succ,List.set_cons_zero]
      obtain⟨hA,hA2⟩:=fin5 HBS.out hb8s (.int .i64 2) (.int .i64 N) (.string ⟨#[]⟩) (.slice none 0 0) (.slice none 0 0)
      obtain⟨hC,hC2⟩:=fin5 (zbQ HBS.out) hb8s.drew (.int .i64 2) (.int .i64 N) (.string ⟨#[]⟩) (.slice none 0 0) (.slice none 0 0)
      have hA':=hA.drew
      have hA2':=zbQ hA2
      refine bodyPost_ret (v:= .tuple #[.agg #[.int .i64 2,.int .i64 N,.string ⟨#[]⟩,.slice none 0 0,.slice none 0 0],.int .i64 (zaY (strL s) (i+n):Nat),.int .i64 (left-1),.int .i64 0]) (zak Tryz.results94 _ _ W.heap.size _ [.int .i64 2,.int .i64 N,.string ⟨#[]⟩,.slice none 0 0,.slice none 0 0] _ rfl (by first|(with_reducible exact hA')|(with_reducible exact hC)) Tryz.underlying27 rfl zaa) rfl ?_
      rw[HR2.out]
      exact⟨_,rfl,RepS.plain _ _ 2 N _ (by decide),(by first|(with_reducible exact hA2')|(with_reducible exact hC2))⟩
 ·have hm45:=zbd (show c≠45 by omega)
  obtain⟨m45,k45⟩:=hm45
  by_cases h1:left-1<0
  ·have HR2:Hid (valF (strL s) mny i left=(zeroJ,i,left-1,53)):=Lib.hid (by rw[HR.out,if_pos h1])
   clear HR
   go_enter Tryz.func94,Tryz.ntmps94
   go_wp2_with(go_at_call 127;(with_reducible refine(HC.out _).mono ?_);rintro e w' ⟨rfl,rfl⟩)
   rw[HR2.out]
   refine bodyPost_ret (v:= .tuple #[.agg #[.int .i64 0,.int .i64 0,.string ⟨#[]⟩,.slice none 0 0,.slice none 0 0],.int .i64 (i:Int),.int .i64 (left-1),.int .i64 53]) (by simp[results,Tryz.results94,go_sem]) rfl ⟨_,rfl,RepS.zero _ _,?_⟩
   exact(Below.refl _ _).alloc (Nat.le_refl _) _
  ·by_cases hn0:n=0
   ·subst hn0
    have HR2:Hid (valF (strL s) mny i left=(zeroJ,i+1,left-1,50)):=Lib.hid (by rw[HR.out,if_neg h1,if_pos rfl])
    clear HR
    go_enter Tryz.func94,Tryz.ntmps94
    go_wp2_with(first
     |(go_at_call 127;(with_reducible refine(HC.out _).mono ?_);rintro e w' ⟨rfl,rfl⟩)
     |(go_at_call 128;(with_reducible refine(HLE.out _).mono ?_);rintro e w' ⟨rfl,rfl⟩))
    rw[HR2.out]
    refine bodyPost_ret (v:= .tuple #[.agg #[.int .i64 0,.int .i64 0,.string ⟨#[]⟩,.slice none 0 0,.slice none 0 0],.int .i64 ((i:Int)+1),.int .i64 (left-1),.int .i64 50]) (by simp[results,Tryz.results94,go_sem]) rfl ⟨_,?_,RepS.zero _ _,?_⟩
    ·congr 3
    ·exact((Below.refl _ _).alloc (Nat.le_refl _) _).alloc (by simp) _
   ·have hnb:=(zbd (show(n:Int)≠0 by omega)).1
    cases hf:fitL D (-9007199254740991) 9007199254740991 with
    |false=>
     have HR2:Hid (valF (strL s) mny i left=(zeroJ,i,left-1,41)):=Lib.hid (by rw[HR.out,if_neg h1,if_neg hn0,hf,if_neg (by decide)])
     rw[show zgd D (-9007199254740991) 9007199254740991= .tuple #[.int .i64 0,.int .i64 41,.int .i64 (-1)]by unfold zgd;rw[if_pos (HFORM.out hn0),hf,if_neg (by decide)]]at HRD
     clear HR hn0 hf
     go_enter Tryz.func94,Tryz.ntmps94
     go_wp2_with(first
      |(go_at_call 127;(with_reducible refine(HC.out _).mono ?_);rintro e w' ⟨rfl,rfl⟩)
      |(go_at_call 128;(with_reducible refine(HLE.out _).mono ?_);rintro e w' ⟨rfl,rfl⟩)
      |(go_at_call 129;(with_reducible refine(HRD.out _).mono ?_);rintro e w' ⟨rfl,rfl⟩))
     rw[HR2.out]
     refine bodyPost_ret (v:= .tuple #[.agg #[.int .i64 0,.int .i64 0,.string ⟨#[]⟩,.slice none 0 0,.slice none 0 0],.int .i64 (i:Int),.int .i64 (left-1),.int .i64 41]) (by simp[results,Tryz.results94,go_sem]) rfl ⟨_,rfl,RepS.zero _ _,?_⟩
     exact((Below.refl _ _).alloc (Nat.le_refl _) _).alloc (by simp) _
    |true=>
     have HR2:Hid (valF (strL s) mny i left=(.mk 2 N ⟨#[]⟩ [] [],zaY (strL s) (i+n),left-1,0)):=Lib.hid (by rw[HR.out,if_neg h1,if_neg hn0,hf,if_pos rfl])
     rw[show zgd D (-9007199254740991) 9007199254740991= .tuple #[.int .i64 N,.int .i64 0,.int .i64 (-1)]by unfold zgd;rw[if_pos (HFORM.out hn0),hf,if_pos rfl,←HNN.out]]at HRD
     clear HR hn0 hf
     go_enter Tryz.func94,Tryz.ntmps94
     go_wp2_with(first
      |(go_at_call 127;(with_reducible refine(HC.out _).mono ?_);rintro e w' ⟨rfl,rfl⟩)
      |(go_at_call 128;(with_reducible refine(HLE.out _).mono ?_);rintro e w' ⟨rfl,rfl⟩)
      |(go_at_call 129;(with_reducible refine(HRD.out _).mono ?_);rintro e w' ⟨rfl,rfl⟩)
      |(refine zaQ rfl none rfl _ (.tmp 14) _ rfl (W.heap.size+1) 0 [.int .i64 2,.int .i64 N,.string ⟨#[]⟩,.slice none 0 0,.slice none 0 0] rfl rfl _ _ (zbj W zeros5 zeros5) (by simp[zeros5]) zaa (by intro v hv;simp at hv;rcases hv with rfl|rfl|rfl|rfl|rfl<;>rfl) ?_;intro w1 hb14s hgrs;rw[zaW _ _ (by simp[zeros5])]at hb14s;have hb8s:=Blk.grown (zbY W zeros5 zeros5) hgrs (by simp);have HBS:=Lib.hid (Below.grown (zbV W zeros5 zeros5) hgrs (Below.size (zbV W zeros5 zeros5)) (by intro k hk;injection hk with hk;omega));clear hgrs;try go_frame))
     obtain⟨a0,a1,a2,a3,a4⟩:w1.cell? ⟨W.heap.size,0,none⟩=some (.int .i64 0)∧w1.cell? ⟨W.heap.size,1,none⟩=some (.int .i64 0)∧w1.cell? ⟨W.heap.size,2,none⟩=some (.string ⟨#[]⟩)∧w1.cell? ⟨W.heap.size,3,none⟩=some (.slice none 0 0)∧w1.cell? ⟨W.heap.size,4,none⟩=some (.slice none 0 0):=⟨hb8s.cell 0,hb8s.cell 1,hb8s.cell 2,hb8s.cell 3,hb8s.cell 4⟩
     obtain⟨f0,f1,f2,f3,f4⟩:w1.frozen? ⟨W.heap.size,0,none⟩=false∧w1.frozen? ⟨W.heap.size,1,none⟩=false∧w1.frozen? ⟨W.heap.size,2,none⟩=false∧w1.frozen? ⟨W.heap.size,3,none⟩=false∧w1.frozen? ⟨W.heap.size,4,none⟩=false:=⟨hb8s.frozen 0,hb8s.frozen 1,hb8s.frozen 2,hb8s.frozen 3,hb8s.frozen 4⟩
     obtain⟨b0,b1,b2,b3,b4⟩:w1.cell? ⟨W.heap.size+1,0,none⟩=some (.int .i64 2)∧w1.cell? ⟨W.heap.size+1,1,none⟩=some (.int .i64 N)∧w1.cell? ⟨W.heap.size+1,2,none⟩=some (.string ⟨#[]⟩)∧w1.cell? ⟨W.heap.size+1,3,none⟩=some (.slice none 0 0)∧w1.cell? ⟨W.heap.size+1,4,none⟩=some (.slice none 0 0):=⟨hb14s.cell 0,hb14s.cell 1,hb14s.cell 2,hb14s.cell 3,hb14s.cell 4⟩
     go_region_law(go_simp;go_at_call 95;(with_reducible refine(HSK.out _).mono ?_);rintro e w' ⟨rfl,rfl⟩)
     all_goals
      go_wp2_with fail
      simp only[List.getElem_toArray,List.getElem_cons_succ,List.getElem_cons_zero,Act.put,List.setIfInBounds_toArray,List.set_cons_succ,List.set_cons_zero]
      obtain⟨hA,hA2⟩:=fin5 HBS.out hb8s (.int .i64 2) (.int .i64 N) (.string ⟨#[]⟩) (.slice none 0 0) (.slice none 0 0)
      obtain⟨hC,hC2⟩:=fin5 (zbQ HBS.out) hb8s.drew (.int .i64 2) (.int .i64 N) (.string ⟨#[]⟩) (.slice none 0 0) (.slice none 0 0)
      have hA':=hA.drew
      have hA2':=zbQ hA2
      refine bodyPost_ret (v:= .tuple #[.agg #[.int .i64 2,.int .i64 N,.string ⟨#[]⟩,.slice none 0 0,.slice none 0 0],.int .i64 (zaY (strL s) (i+n):Nat),.int .i64 (left-1),.int .i64 0]) (zak Tryz.results94 _ _ W.heap.size _ [.int .i64 2,.int .i64 N,.string ⟨#[]⟩,.slice none 0 0,.slice none 0 0] _ rfl (by first|(with_reducible exact hA')|(with_reducible exact hC)) Tryz.underlying27 rfl zaa) rfl ?_
      rw[HR2.out]
      exact⟨_,rfl,RepS.plain _ _ 2 N _ (by decide),(by first|(with_reducible exact hA2')|(with_reducible exact hC2))⟩
end Go.Proofs.YtjfgmgkhinehaaaGreatDoor
