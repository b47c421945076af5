
import Derived.Test.YtceddodfddlncaaGreatDoorJb46
set_option maxRecDepth 100000
set_option maxHeartbeats 16000000
set_option linter.all false
namespace Go.Proofs.YtceddodfddlncaaGreatDoor
open Go Go.RowKit
def xorM (K:List Int) (c:Int):List Int:=K.map fun x=>bits .xor .u8 x c
theorem xorK_part (K:List Int) (c:Int): ∀j,j≤K.length→xorK K c j=xorM (K.take j) c++K.drop j
 |0,_=>rfl
 |j+1,h=>by
  have ih:=xorK_part K c j (by omega)
  have hd:K.drop j=K.getD j 0::K.drop (j+1):=by
   rw[List.drop_eq_getElem_cons (by omega:j<K.length)]
   simp[List.getD,show j<K.length by omega]
  have hl:(xorM (K.take j) c).length=j:=by rw[xorM,List.length_map,List.length_take];omega
  have hg:(xorM (K.take j) c++K.drop j).getD j 0=K.getD j 0:=by
   rw[hd,List.getD_eq_getElem?_getD,List.getElem?_append_right (by rw[hl];omega),hl,Nat.sub_self];rfl
  have hgK:K.getD j 0=K[j]:=by rw[List.getD_eq_getElem?_getD,List.getElem?_eq_getElem (by omega:j<K.length)];rfl
  rw[xorK,ih,hg,List.set_append_right _ _ (by rw[hl];omega),hl,Nat.sub_self,hd,List.take_add_one,List.getElem?_eq_getElem (by omega:j<K.length),Option.toList_some,←hgK]
  simp only[xorM,List.map_append,List.map_cons,List.map_nil,List.set_cons_zero,List.append_assoc,List.cons_append,List.nil_append]
theorem xorK_all (K:List Int) (c:Int) (h:K.length=64):xorK K c 64=xorM K c:=by
 rw[xorK_part K c 64 (by omega),List.take_of_length_le (by omega),List.drop_eq_nil_of_le (by omega),List.append_nil]
def keyR (key:List Int):List Int:=if 64<key.length then zbX key else key
theorem keyL_get (key:List Int) (i:Nat) (hi:i<64):(keyL key).getD i 0=if i<(keyR key).length then(keyR key).getD i 0 else 0:=by
 have hk:keyL key=splice (List.replicate 64 0) 0 (keyR key):=by
  unfold keyL keyR;split<;>rfl
 have hl:(keyR key).length≤64:=by
  unfold keyR;split
  ·rw[zap];omega
  ·omega
 rw[hk]
 simp only[splice,List.take_zero,List.nil_append,Nat.zero_add,List.getD_eq_getElem?_getD]
 by_cases h:i<(keyR key).length
 ·rw[if_pos h,List.getElem?_append_left h]
 ·rw[if_neg h,List.getElem?_append_right (by omega),List.getElem?_drop,List.getElem?_replicate]
  split<;>rfl
theorem zfv (K:List Int) (c:Int):Bytes (xorM K c):= .of_mem fun x hx=>by
 obtain⟨y,_,rfl⟩:=List.mem_map.1 hx
 exact bits_u8 _ _ _
theorem zgu (K:List Int) (c:Int) (i:Nat) (h:i<K.length):ints .u8 (xorM (K.take i) c)++[.int .u8 (bits .xor .u8 (K.getD i 0) c)]=ints .u8 (xorM (K.take (i+1)) c):=by
 have hgK:K.getD i 0=K[i]:=by rw[List.getD_eq_getElem?_getD,List.getElem?_eq_getElem h];rfl
 rw[List.take_add_one,List.getElem?_eq_getElem h,Option.toList_some,←hgK]
 simp only[ints,xorM,List.map_append,List.map_cons,List.map_nil]
theorem zix {B k:Nat} {v5 v6 v5' v6':Value} {w1 wr w2 w3:World} {o5 o6:Obj} {X5 X6 Y5 Y6:List Value} (h5:wr.ownsRow B 5 1 v5 k X5) (h6:wr.ownsRow B 5 1 v6 k X6) (hne:v5.ownBlock≠v6.ownBlock) (hbel:Below w1.heap.size w1 wr) (hB:B=w1.heap.size)
  (a5:w2.ownsRow B 5 1 v5' (k+1) Y5) (g5:(wr.alloc o5).grownBy w2 v5.ownBlock) (at5:v5'.ownBlock=v5.ownBlock∨v5'.ownBlock=some (wr.alloc o5).heap.size)
  (a6:w3.ownsRow B 5 1 v6' (k+1) Y6) (g6:(w2.alloc o6).grownBy w3 v6.ownBlock) (at6:v6'.ownBlock=v6.ownBlock∨v6'.ownBlock=some (w2.alloc o6).heap.size):
  w3.ownsRow B 5 1 v5' (k+1) Y5∧w3.ownsRow B 5 1 v6' (k+1) Y6∧v5'.ownBlock≠v6'.ownBlock∧Below w1.heap.size w1 w3:=by
 subst hB
 have hs1:=hbel.size
 have n56:v5'.ownBlock≠v6.ownBlock:=fun e=>by
  rcases at5 with h|h
  ·exact hne (h.symm.trans e)
  ·have:=(h6.lt _ (e.symm.trans h)).2
   simp at this;omega
 have hb2:Below w1.heap.size w1 w2:=(hbel.alloc hs1 _).grown g5 (by simp;omega) (zdf h5)
 have hs2:=hb2.size
 have hb3:Below w1.heap.size w1 w3:=(hb2.alloc hs2 _).grown g6 (by simp;omega) (zdf h6)
 refine⟨(a5.alloc o6).kept g6 (Or.inr n56),a6,fun e=> ?_,hb3⟩
 rcases at6 with h|h
 ·exact n56 (e.trans h)
 ·have:=(a5.lt _ (e.trans h)).2
  simp at this;omega
theorem size_txtD (D:List Int):(txtD D).size=D.length:=by simp[txtD,ByteArray.size]
theorem zfQ (a b:ByteArray) (w:World) (h:a.size+b.size≤9223372036854775807):(Op.stringOp .add a b).run Tryz.prog w= .ok (.string (a++b)) w:=by
 rw[run_string_add_sum w _ _ (by omega)]
theorem zlh (key s:ByteArray) (k2:ByteArray) (w:World) (hk2:k2.size≤64) (hs:s.size≤20000) (hkey:strL k2=keyR (strL key)) (hbig:(64<key.size∧ ∀W,Calls Tryz.prog 74 #[.string key] W fun e w'=>e= .returned (.string k2)∧Below W.heap.size W w')∨(¬64<key.size∧k2=key)) (hkz:key.size≤9223372036854775807):
  Calls Tryz.prog 43 #[.string key,.string s] w fun e w'=>e= .returned (.string (txtD (macL (strL key) (strL s))))∧Below w.heap.size w w':=by
 obtain⟨i0,hi0,hz0,hz1,hz2⟩:=info_parts info5s
 have HKL:Hid (∀i,i<64→(keyL (strL key)).getD i 0=if i<k2.size then(strL k2).getD i 0 else 0):=Lib.hid fun i hi=>by rw[keyL_get _ i hi,←hkey,zaQ]
 have hlen:=zkQ (strL key)
 have HML:Hid (macL (strL key) (strL s)=zbX (xorM (keyL (strL key)) 92++zbX (xorM (keyL (strL key)) 54++strL s))):=Lib.hid (by rw[macL,xorK_all _ _ hlen,xorK_all _ _ hlen])
 obtain⟨M,hM⟩: ∃M,M=macL (strL key) (strL s):=⟨_,rfl⟩
 rw[←hM]at HML⊢
 obtain⟨K,hK⟩: ∃K,K=keyL (strL key):=⟨_,rfl⟩
 rw[←hK]at HKL HML hlen
 have HLEN:=Lib.hid hlen
 clear hM hK hlen hkey
 have HB0:Hid (∀w1:World,Below w.heap.size w w1→ ∃B,B=w1.heap.size∧((w1.alloc (.cells #[] 5)).alloc (.cells #[] 5)).ownsRow B 5 1 (.slice (some ⟨w1.heap.size,0,none⟩) 0 0) 0 []∧((w1.alloc (.cells #[] 5)).alloc (.cells #[] 5)).ownsRow B 5 1 (.slice (some ⟨w1.heap.size+1,0,none⟩) 0 0) 0 []):=Lib.hid fun w1 _=>by
  refine⟨_,rfl,(World.ownsRow_lit w1 #[] 0 (Nat.le_refl _) (by unfold maxLen;omega) rfl).alloc _,?_⟩
  have:=World.ownsRow_lit (base:=w1.heap.size) (w1.alloc (.cells #[] 5)) #[] (e:=5) (size:=1) 0 (by simp) (by unfold maxLen;omega) rfl
  simpa using this
 rcases hbig with⟨hb,hsum⟩|⟨hb,rfl⟩
 ·have HSUM:=Lib.hid hsum
  clear hsum
  go_enter Tryz.func43,Tryz.ntmps43
  go_wp2_with(go_at_call 74;refine(HSUM.out _).mono ?_;rintro e w1 ⟨rfl,hb1⟩;have HB1:=Lib.hid hb1;clear hb1)
  obtain⟨B,hBB,ho5,ho6⟩:=HB0.out w1 HB1.out
  have HO:=Lib.hid (And.intro ho5 ho6)
  have HBB:=Lib.hid hBB
  clear ho5 ho6 hBB HB0
  go_loopw[5,6,7] (fun v5 v6 i wq=> ∃k:Nat,k≤64∧i= .int .i64 k∧wq.ownsRow B 5 1 v5 k (ints .u8 (xorM (K.take k) 54))∧wq.ownsRow B 5 1 v6 k (ints .u8 (xorM (K.take k) 92))∧v5.ownBlock≠v6.ownBlock∧Below w1.heap.size w1 wq) (fun _ _ i _=>64-(intOf i).toNat)
  case atStart=>exact⟨0,by omega,rfl,HO.out.1,HO.out.2,by simp[Value.ownBlock],(zad w1 _).trans ((zad _ _).mono (by simp))⟩
  case round=>
   clear HO
   obtain⟨k,hk,rfl,ho5,ho6,hne,hbel⟩:=hrel
   have H5:=Lib.hid ho5
   have H6:=Lib.hid ho6
   have HNE:=Lib.hid hne
   have HBE:=Lib.hid hbel
   have hBs:B≤wr.heap.size:=by rw[HBB.out];exact hbel.size
   clear ho5 ho6 hne hbel
   by_cases hlt:k<64
   ·have HX:=HKL.out k hlt
    have HN5:=Lib.hid (zgu K 54 k (by rw[HLEN.out];exact hlt))
    have HN6:=Lib.hid (zgu K 92 k (by rw[HLEN.out];exact hlt))
    obtain⟨x,hx⟩: ∃x,x=K.getD k 0:=⟨_,rfl⟩
    rw[←hx]at HX HN5 HN6
    obtain⟨y5,hy5⟩: ∃y,y=bits .xor .u8 x 54:=⟨_,rfl⟩
    obtain⟨y6,hy6⟩: ∃y,y=bits .xor .u8 x 92:=⟨_,rfl⟩
    have HY:=Lib.hid (And.intro hy5 hy6)
    rw[←hy5]at HN5
    rw[←hy6]at HN6
    have hfin:True:=trivial
    by_cases hks:k<k2.size
    ·have hxv:(k2[k].toNat:Int)=x:=by rw[HX,if_pos hks,zja]
     have hz5:bits .xor .u8 (k2[k].toNat:Int) 54=y5:=by rw[hxv];exact hy5.symm
     have hz6:bits .xor .u8 (k2[k].toNat:Int) 92=y6:=by rw[hxv];exact hy6.symm
     clear HX hx hy5 hy6 hxv
     go_wp2_with(first
      |(at_builtin;refine wpList_append_own_at _ rfl (.tmp 27) (.tmp 30) 46 rfl B 5 i0 (.int .u8 0) 1 1 Tryz.underlying46 hi0 hz0 hz1 hz2 rfl (by decide) _ k _ rfl (H5.out.alloc _) ⟨wr.heap.size,0,none⟩ 1 1 [.int .u8 y5] rfl rfl (cell_one_new _ _ _) (by intro u hu;rw[List.mem_singleton.1 hu];rfl) (by unfold maxLen;omega) (by omega) (by simp;omega) ?_;intro v5' w2 hown5 hgr5 _ hat5;have HA5:=Lib.hid (And.intro hown5 (And.intro hgr5 hat5));have hB2:B≤w2.heap.size:=Nat.le_trans (by simp;omega) hgr5.size;have H62:=Lib.hid ((H6.out.alloc _).kept hgr5 (Or.inr (Ne.symm HNE.out)));clear hown5 hgr5 hat5;try go_frame)
      |(at_builtin;refine wpList_append_own_at _ rfl (.tmp 32) (.tmp 35) 46 rfl B 5 i0 (.int .u8 0) 1 1 Tryz.underlying46 hi0 hz0 hz1 hz2 rfl (by decide) _ k _ rfl (H62.out.alloc _) ⟨w2.heap.size,0,none⟩ 1 1 [.int .u8 y6] rfl rfl (cell_one_new _ _ _) (by intro u hu;rw[List.mem_singleton.1 hu];rfl) (by unfold maxLen;omega) (by omega) (by simp;omega) ?_;intro v6' w3 hown6 hgr6 _ hat6;have HA6:=Lib.hid (And.intro hown6 (And.intro hgr6 hat6));clear hown6 hgr6 hat6;try go_frame))
     have a5:=HA5.out.1
     have a6:=HA6.out.1
     rw[HN5.out]at a5
     rw[HN6.out]at a6
     have HST:=Lib.hid (zix H5.out H6.out HNE.out HBE.out HBB.out a5 HA5.out.2.1 HA5.out.2.2 a6 HA6.out.2.1 HA6.out.2.2)
     exact⟨⟨k+1,by omega,by go_num,HST.out⟩,by simp[intOf];omega⟩
    ·have hxv:x=0:=by rw[HX,if_neg hks]
     have hz5:bits .xor .u8 0 54=y5:=by rw[hy5,hxv]
     have hz6:bits .xor .u8 0 92=y6:=by rw[hy6,hxv]
     clear HX hx hy5 hy6 hxv
     go_wp2_with(first
      |(at_builtin;refine wpList_append_own_at _ rfl (.tmp 27) (.tmp 30) 46 rfl B 5 i0 (.int .u8 0) 1 1 Tryz.underlying46 hi0 hz0 hz1 hz2 rfl (by decide) _ k _ rfl (H5.out.alloc _) ⟨wr.heap.size,0,none⟩ 1 1 [.int .u8 y5] rfl rfl (cell_one_new _ _ _) (by intro u hu;rw[List.mem_singleton.1 hu];rfl) (by unfold maxLen;omega) (by omega) (by simp;omega) ?_;intro v5' w2 hown5 hgr5 _ hat5;have HA5:=Lib.hid (And.intro hown5 (And.intro hgr5 hat5));have hB2:B≤w2.heap.size:=Nat.le_trans (by simp;omega) hgr5.size;have H62:=Lib.hid ((H6.out.alloc _).kept hgr5 (Or.inr (Ne.symm HNE.out)));clear hown5 hgr5 hat5;try go_frame)
      |(at_builtin;refine wpList_append_own_at _ rfl (.tmp 32) (.tmp 35) 46 rfl B 5 i0 (.int .u8 0) 1 1 Tryz.underlying46 hi0 hz0 hz1 hz2 rfl (by decide) _ k _ rfl (H62.out.alloc _) ⟨w2.heap.size,0,none⟩ 1 1 [.int .u8 y6] rfl rfl (cell_one_new _ _ _) (by intro u hu;rw[List.mem_singleton.1 hu];rfl) (by unfold maxLen;omega) (by omega) (by simp;omega) ?_;intro v6' w3 hown6 hgr6 _ hat6;have HA6:=Lib.hid (And.intro hown6 (And.intro hgr6 hat6));clear hown6 hgr6 hat6;try go_frame))
     have a5:=HA5.out.1
     have a6:=HA6.out.1
     rw[HN5.out]at a5
     rw[HN6.out]at a6
     have HST:=Lib.hid (zix H5.out H6.out HNE.out HBE.out HBB.out a5 HA5.out.2.1 HA5.out.2.2 a6 HA6.out.2.1 HA6.out.2.2)
     exact⟨⟨k+1,by omega,by go_num,HST.out⟩,by simp[intOf];omega⟩
   ·obtain rfl:k=64:=by omega
    have hl54:(xorM K 54).length=64:=by rw[xorM,List.length_map,HLEN.out]
    have hl92:(xorM K 92).length=64:=by rw[xorM,List.length_map,HLEN.out]
    have h5:=H5.out
    have h6:=H6.out
    rw[List.take_of_length_le (by rw[HLEN.out];exact Nat.le_refl _)]at h5 h6
    obtain⟨A5,c5,rfl,_,hl5⟩:=zgJ h5 hl54
    obtain⟨A6,c6,rfl,_,hl6⟩:=zgJ h6 hl92
    rw[show((64:Nat):Int)=64 from rfl]
    have HC5:=Lib.hid (fun(W:World) (hW:Below wr.heap.size wr W)=>convR A5 (xorM K 54) 64 c5 W hl54 (hl5.below hW))
    have HC6:=Lib.hid (fun(W:World) (hW:Below wr.heap.size wr W)=>convR A6 (xorM K 92) 64 c6 W hl92 (hl6.below hW))
    obtain⟨S5,hS5⟩: ∃S,S=txtD (xorM K 54):=⟨_,rfl⟩
    obtain⟨S6,hS6⟩: ∃S,S=txtD (xorM K 92):=⟨_,rfl⟩
    rw[←hS5]at HC5
    rw[←hS6]at HC6
    obtain⟨T5,hT5⟩: ∃S,S5++s=S:=⟨_,rfl⟩
    have hT5l:strL T5=xorM K 54++strL s:=by rw[←hT5,zdd,hS5,zcv (zfv _ _)]
    have hT5s:T5.size=64+s.size:=by rw[←zaQ,hT5l,List.length_append,hl54,zaQ]
    have HS1:=Lib.hid (fun(W:World)=>zem T5 W (by omega))
    obtain⟨D1,hD1⟩: ∃D,D=txtD (zbX (strL T5)):=⟨_,rfl⟩
    rw[←hD1]at HS1
    obtain⟨T6,hT6⟩: ∃S,S6++D1=S:=⟨_,rfl⟩
    have hT6l:strL T6=xorM K 92++zbX (xorM K 54++strL s):=by rw[←hT6,zdd,hS6,zcv (zfv _ _),hD1,zcv (zbv _),hT5l]
    have hT6s:T6.size=96:=by rw[←zaQ,hT6l,List.length_append,hl92,zap]
    have HS2:Hid (∀W:World,Calls Tryz.prog 74 #[.string T6] W fun e w'=>e= .returned (.string (txtD M))∧Below W.heap.size W w'):=Lib.hid fun W=>by
     have:=zem T6 W (by omega)
     rw[hT6l,←HML.out]at this
     exact this
    have hz1':S5.size+s.size≤9223372036854775807:=by rw[←ByteArray.size_append,hT5];omega
    have hz2':S6.size+D1.size≤9223372036854775807:=by rw[←ByteArray.size_append,hT6];omega
    have hadd1:=fun(W:World)=>zfQ S5 s W hz1'
    have hadd2:=fun(W:World)=>zfQ S6 D1 W hz2'
    rw[hT5]at hadd1
    rw[hT6]at hadd2
    have hc5:=HC5.out wr.drew ((Below.refl _ _).drew)
    have hc6:=HC6.out wr.drew ((Below.refl _ _).drew)
    have HBT:=Lib.hid (HB1.out.trans (HBE.out.mono HB1.out.size))
    clear hT5 hT6 hl54 hl92 h5 h6 hl5 hl6 hS5 hS6 hT5l hT5s hD1 hT6l hT6s H5 H6 HNE HBE
    go_wp2_with fail
    go_region_law(first
     |(go_simp;go_at_call 74;((with_reducible refine(HS1.out _).mono ?_);rintro e w8 ⟨rfl,hb8⟩;have HB8:=Lib.hid hb8;have hc6b:=HC6.out w8 (((Below.refl _ _).drew).trans hb8);clear hb8))
     |(go_simp;go_at_call 74;((with_reducible refine(HS2.out _).mono ?_);rintro e w9 ⟨rfl,hb9⟩;have HB9:=Lib.hid hb9;clear hb9)))
    all_goals
     go_wp2_with fail
     go_ret
     exact⟨rfl,(HBT.out.drew.trans (HB8.out.mono HBT.out.drew.size)).trans (HB9.out.mono (HBT.out.drew.trans (HB8.out.mono HBT.out.drew.size)).size)⟩
 ·obtain⟨w1,rfl⟩: ∃w1,w1=w:=⟨_,rfl⟩
  have HB1:Hid (Below w1.heap.size w1 w1):=Lib.hid (Below.refl _ _)
  go_enter Tryz.func43,Tryz.ntmps43
  go_wp2_with fail
  obtain⟨B,hBB,ho5,ho6⟩:=HB0.out w1 HB1.out
  have HO:=Lib.hid (And.intro ho5 ho6)
  have HBB:=Lib.hid hBB
  clear ho5 ho6 hBB HB0
  go_loopw[5,6,7] (fun v5 v6 i wq=> ∃k:Nat,k≤64∧i= .int .i64 k∧wq.ownsRow B 5 1 v5 k (ints .u8 (xorM (K.take k) 54))∧wq.ownsRow B 5 1 v6 k (ints .u8 (xorM (K.take k) 92))∧v5.ownBlock≠v6.ownBlock∧Below w1.heap.size w1 wq) (fun _ _ i _=>64-(intOf i).toNat)
  case atStart=>exact⟨0,by omega,rfl,HO.out.1,HO.out.2,by simp[Value.ownBlock],(zad w1 _).trans ((zad _ _).mono (by simp))⟩
  case round=>
   clear HO
   obtain⟨k,hk,rfl,ho5,ho6,hne,hbel⟩:=hrel
   have H5:=Lib.hid ho5
   have H6:=Lib.hid ho6
   have HNE:=Lib.hid hne
   have HBE:=Lib.hid hbel
   have hBs:B≤wr.heap.size:=by rw[HBB.out];exact hbel.size
   clear ho5 ho6 hne hbel
   by_cases hlt:k<64
   ·have HX:=HKL.out k hlt
    have HN5:=Lib.hid (zgu K 54 k (by rw[HLEN.out];exact hlt))
    have HN6:=Lib.hid (zgu K 92 k (by rw[HLEN.out];exact hlt))
    obtain⟨x,hx⟩: ∃x,x=K.getD k 0:=⟨_,rfl⟩
    rw[←hx]at HX HN5 HN6
    obtain⟨y5,hy5⟩: ∃y,y=bits .xor .u8 x 54:=⟨_,rfl⟩
    obtain⟨y6,hy6⟩: ∃y,y=bits .xor .u8 x 92:=⟨_,rfl⟩
    have HY:=Lib.hid (And.intro hy5 hy6)
    rw[←hy5]at HN5
    rw[←hy6]at HN6
    have hfin:True:=trivial
    by_cases hks:k<k2.size
    ·have hxv:(k2[k].toNat:Int)=x:=by rw[HX,if_pos hks,zja]
     have hz5:bits .xor .u8 (k2[k].toNat:Int) 54=y5:=by rw[hxv];exact hy5.symm
     have hz6:bits .xor .u8 (k2[k].toNat:Int) 92=y6:=by rw[hxv];exact hy6.symm
     clear HX hx hy5 hy6 hxv
     go_wp2_with(first
      |(at_builtin;refine wpList_append_own_at _ rfl (.tmp 27) (.tmp 30) 46 rfl B 5 i0 (.int .u8 0) 1 1 Tryz.underlying46 hi0 hz0 hz1 hz2 rfl (by decide) _ k _ rfl (H5.out.alloc _) ⟨wr.heap.size,0,none⟩ 1 1 [.int .u8 y5] rfl rfl (cell_one_new _ _ _) (by intro u hu;rw[List.mem_singleton.1 hu];rfl) (by unfold maxLen;omega) (by omega) (by simp;omega) ?_;intro v5' w2 hown5 hgr5 _ hat5;have HA5:=Lib.hid (And.intro hown5 (And.intro hgr5 hat5));have hB2:B≤w2.heap.size:=Nat.le_trans (by simp;omega) hgr5.size;have H62:=Lib.hid ((H6.out.alloc _).kept hgr5 (Or.inr (Ne.symm HNE.out)));clear hown5 hgr5 hat5;try go_frame)
      |(at_builtin;refine wpList_append_own_at _ rfl (.tmp 32) (.tmp 35) 46 rfl B 5 i0 (.int .u8 0) 1 1 Tryz.underlying46 hi0 hz0 hz1 hz2 rfl (by decide) _ k _ rfl (H62.out.alloc _) ⟨w2.heap.size,0,none⟩ 1 1 [.int .u8 y6] rfl rfl (cell_one_new _ _ _) (by intro u hu;rw[List.mem_singleton.1 hu];rfl) (by unfold maxLen;omega) (by omega) (by simp;omega) ?_;intro v6' w3 hown6 hgr6 _ hat6;have HA6:=Lib.hid (And.intro hown6 (And.intro hgr6 hat6));clear hown6 hgr6 hat6;try go_frame))
     have a5:=HA5.out.1
     have a6:=HA6.out.1
     rw[HN5.out]at a5
     rw[HN6.out]at a6
     have HST:=Lib.hid (zix H5.out H6.out HNE.out HBE.out HBB.out a5 HA5.out.2.1 HA5.out.2.2 a6 HA6.out.2.1 HA6.out.2.2)
     exact⟨⟨k+1,by omega,by go_num,HST.out⟩,by simp[intOf];omega⟩
    ·have hxv:x=0:=by rw[HX,if_neg hks]
     have hz5:bits .xor .u8 0 54=y5:=by rw[hy5,hxv]
     have hz6:bits .xor .u8 0 92=y6:=by rw[hy6,hxv]
     clear HX hx hy5 hy6 hxv
     go_wp2_with(first
      |(at_builtin;refine wpList_append_own_at _ rfl (.tmp 27) (.tmp 30) 46 rfl B 5 i0 (.int .u8 0) 1 1 Tryz.underlying46 hi0 hz0 hz1 hz2 rfl (by decide) _ k _ rfl (H5.out.alloc _) ⟨wr.heap.size,0,none⟩ 1 1 [.int .u8 y5] rfl rfl (cell_one_new _ _ _) (by intro u hu;rw[List.mem_singleton.1 hu];rfl) (by unfold maxLen;omega) (by omega) (by simp;omega) ?_;intro v5' w2 hown5 hgr5 _ hat5;have HA5:=Lib.hid (And.intro hown5 (And.intro hgr5 hat5));have hB2:B≤w2.heap.size:=Nat.le_trans (by simp;omega) hgr5.size;have H62:=Lib.hid ((H6.out.alloc _).kept hgr5 (Or.inr (Ne.symm HNE.out)));clear hown5 hgr5 hat5;try go_frame)
      |(at_builtin;refine wpList_append_own_at _ rfl (.tmp 32) (.tmp 35) 46 rfl B 5 i0 (.int .u8 0) 1 1 Tryz.underlying46 hi0 hz0 hz1 hz2 rfl (by decide) _ k _ rfl (H62.out.alloc _) ⟨w2.heap.size,0,none⟩ 1 1 [.int .u8 y6] rfl rfl (cell_one_new _ _ _) (by intro u hu;rw[List.mem_singleton.1 hu];rfl) (by unfold maxLen;omega) (by omega) (by simp;omega) ?_;intro v6' w3 hown6 hgr6 _ hat6;have HA6:=Lib.hid (And.intro hown6 (And.intro hgr6 hat6));clear hown6 hgr6 hat6;try go_frame))
     have a5:=HA5.out.1
     have a6:=HA6.out.1
     rw[HN5.out]at a5
     rw[HN6.out]at a6
     have HST:=Lib.hid (zix H5.out H6.out HNE.out HBE.out HBB.out a5 HA5.out.2.1 HA5.out.2.2 a6 HA6.out.2.1 HA6.out.2.2)
     exact⟨⟨k+1,by omega,by go_num,HST.out⟩,by simp[intOf];omega⟩
   ·obtain rfl:k=64:=by omega
    have hl54:(xorM K 54).length=64:=by rw[xorM,List.length_map,HLEN.out]
    have hl92:(xorM K 92).length=64:=by rw[xorM,List.length_map,HLEN.out]
    have h5:=H5.out
    have h6:=H6.out
    rw[List.take_of_length_le (by rw[HLEN.out];exact Nat.le_refl _)]at h5 h6
    obtain⟨A5,c5,rfl,_,hl5⟩:=zgJ h5 hl54
    obtain⟨A6,c6,rfl,_,hl6⟩:=zgJ h6 hl92
    rw[show((64:Nat):Int)=64 from rfl]
    have HC5:=Lib.hid (fun(W:World) (hW:Below wr.heap.size wr W)=>convR A5 (xorM K 54) 64 c5 W hl54 (hl5.below hW))
    have HC6:=Lib.hid (fun(W:World) (hW:Below wr.heap.size wr W)=>convR A6 (xorM K 92) 64 c6 W hl92 (hl6.below hW))
    obtain⟨S5,hS5⟩: ∃S,S=txtD (xorM K 54):=⟨_,rfl⟩
    obtain⟨S6,hS6⟩: ∃S,S=txtD (xorM K 92):=⟨_,rfl⟩
    rw[←hS5]at HC5
    rw[←hS6]at HC6
    obtain⟨T5,hT5⟩: ∃S,S5++s=S:=⟨_,rfl⟩
    have hT5l:strL T5=xorM K 54++strL s:=by rw[←hT5,zdd,hS5,zcv (zfv _ _)]
    have hT5s:T5.size=64+s.size:=by rw[←zaQ,hT5l,List.length_append,hl54,zaQ]
    have HS1:=Lib.hid (fun(W:World)=>zem T5 W (by omega))
    obtain⟨D1,hD1⟩: ∃D,D=txtD (zbX (strL T5)):=⟨_,rfl⟩
    rw[←hD1]at HS1
    obtain⟨T6,hT6⟩: ∃S,S6++D1=S:=⟨_,rfl⟩
    have hT6l:strL T6=xorM K 92++zbX (xorM K 54++strL s):=by rw[←hT6,zdd,hS6,zcv (zfv _ _),hD1,zcv (zbv _),hT5l]
    have hT6s:T6.size=96:=by rw[←zaQ,hT6l,List.length_append,hl92,zap]
    have HS2:Hid (∀W:World,Calls Tryz.prog 74 #[.string T6] W fun e w'=>e= .returned (.string (txtD M))∧Below W.heap.size W w'):=Lib.hid fun W=>by
     have:=zem T6 W (by omega)
     rw[hT6l,←HML.out]at this
     exact this
    have hz1':S5.size+s.size≤9223372036854775807:=by rw[←ByteArray.size_append,hT5];omega
    have hz2':S6.size+D1.size≤9223372036854775807:=by rw[←ByteArray.size_append,hT6];omega
    have hadd1:=fun(W:World)=>zfQ S5 s W hz1'
    have hadd2:=fun(W:World)=>zfQ S6 D1 W hz2'
    rw[hT5]at hadd1
    rw[hT6]at hadd2
    have hc5:=HC5.out wr.drew ((Below.refl _ _).drew)
    have hc6:=HC6.out wr.drew ((Below.refl _ _).drew)
    have HBT:=Lib.hid (HB1.out.trans (HBE.out.mono HB1.out.size))
    clear hT5 hT6 hl54 hl92 h5 h6 hl5 hl6 hS5 hS6 hT5l hT5s hD1 hT6l hT6s H5 H6 HNE HBE
    go_wp2_with fail
    go_region_law(first
     |(go_simp;go_at_call 74;((with_reducible refine(HS1.out _).mono ?_);rintro e w8 ⟨rfl,hb8⟩;have HB8:=Lib.hid hb8;have hc6b:=HC6.out w8 (((Below.refl _ _).drew).trans hb8);clear hb8))
     |(go_simp;go_at_call 74;((with_reducible refine(HS2.out _).mono ?_);rintro e w9 ⟨rfl,hb9⟩;have HB9:=Lib.hid hb9;clear hb9)))
    all_goals
     go_wp2_with fail
     go_ret
     exact⟨rfl,(HBT.out.drew.trans (HB8.out.mono HBT.out.drew.size)).trans (HB9.out.mono (HBT.out.drew.trans (HB8.out.mono HBT.out.drew.size)).size)⟩
theorem refMac_any (key s:ByteArray) (w:World) (hk:key.size≤5000) (hs:s.size≤20000):
  Calls Tryz.prog 43 #[.string key,.string s] w fun e w'=>e= .returned (.string (txtD (macL (strL key) (strL s))))∧Below w.heap.size w w':=by
 by_cases h:64<key.size
 ·refine zlh key s (txtD (zbX (strL key))) w (by rw[size_txtD,zap];omega) hs (by rw[zcv (zbv _),keyR,if_pos (by rw[zaQ];exact h)]) (.inl ⟨h,fun W=>zem key W (by omega)⟩) (by omega)
 ·exact zlh key s key w (by omega) hs (by rw[keyR,if_neg (by rw[zaQ];exact h)]) (.inr ⟨h,rfl⟩) (by omega)
def bigK (k:KeyM):Bool:=decide (1000<k.1.size)||decide (1000<k.2.size)
def grK (ks:List KeyM):Bool:=decide (40<ks.length)||ks.any bigK
theorem any_drop (p:KeyM→Bool) (ks:List KeyM) {i:Nat} (h:i<ks.length):(ks.drop i).any p=(p ks[i]||(ks.drop (i+1)).any p):=by
 rw[List.drop_eq_getElem_cons h,List.any_cons]
theorem zhX (ks:List KeyM) (A:Option Addr) (n c:Nat) (w:World) (hn:ks.length=n) (hn9:n≤9223372036854775807) (hr:RingAt w A ks):
  Calls Tryz.prog 8 #[.slice A n c] w fun e w'=>e= .returned (.bool (grK ks))∧Below w.heap.size w w':=by
 have HN:=Lib.hid hn
 have HR:=Lib.hid hr
 by_cases h40:40<n
 case pos=>
  have h1:(40:Int)<(n:Int):=by omega
  have HG:Hid (grK ks=true):=Lib.hid (by unfold grK;rw[decide_eq_true (by rw[hn];exact h40)];rfl)
  rw[HG.out]
  clear hn hr
  go_enter Tryz.func8,Tryz.ntmps8
  go_wp2
  go_ret
  exact⟨rfl,Below.refl _ _⟩
 case neg=>
  have h1: ¬(40:Int)<(n:Int):=by omega
  have HG:Hid (grK ks=ks.any bigK):=Lib.hid (by unfold grK;rw[decide_eq_false (by rw[hn];exact h40)];rfl)
  rw[HG.out]
  obtain⟨R,hR⟩: ∃R,R=ks.any bigK:=⟨_,rfl⟩
  rw[←hR]
  have HRR:=Lib.hid hR
  clear hn hr hR HG
  go_enter Tryz.func8,Tryz.ntmps8
  go_wp2
  go_loopw[3] (fun i wr=> ∃k:Nat,k≤n∧i= .int .i64 (k:Int)∧R=(ks.drop k).any bigK∧Below w.heap.size w wr) (fun i _=>n-(intOf i).toNat)
  case atStart=>exact⟨0,Nat.zero_le _,rfl,HRR.out,Below.refl _ _⟩
  case round=>
   obtain⟨k,hk,rfl,hrun,hbel⟩:=hrel
   have HBE:=Lib.hid hbel
   have HRUN:=Lib.hid hrun
   clear hbel hrun
   by_cases hlt2:k<n
   ·have hkl:k<ks.length:=by rw[HN.out];exact hlt2
    obtain⟨b,o,rfl,_,x0,x1⟩:=(HR.out.below HBE.out).at hkl
    have HST:=Lib.hid (any_drop bigK ks hkl)
    obtain⟨q,hq⟩: ∃q,q=ks[k]:=⟨_,rfl⟩
    rw[←hq]at x0 x1 HST
    obtain⟨q1,q2⟩:=q
    have hi0:(0:Int)≤(k:Int):=by omega
    have hi1:(k:Int)<(n:Int):=by omega
    clear hq hkl
    by_cases b1:1000<q1.size
    ·have c1:(1000:Int)<(q1.size:Int):=by omega
     have HF:Hid (R=true):=Lib.hid (by rw[HRUN.out,HST.out];unfold bigK;rw[decide_eq_true b1];rfl)
     go_wp2
     go_ret
     exact⟨by rw[HF.out];rfl,HBE.out⟩
    ·have c1: ¬(1000:Int)<(q1.size:Int):=by omega
     by_cases b2:1000<q2.size
     ·have c2:(1000:Int)<(q2.size:Int):=by omega
      have HF:Hid (R=true):=Lib.hid (by rw[HRUN.out,HST.out];unfold bigK;rw[decide_eq_true b2,Bool.or_true];rfl)
      go_wp2
      go_ret
      exact⟨by rw[HF.out];rfl,HBE.out⟩
     ·have c2: ¬(1000:Int)<(q2.size:Int):=by omega
      have HF:Hid (R=(ks.drop (k+1)).any bigK):=Lib.hid (by rw[HRUN.out,HST.out,show bigK (q1,q2)=false by unfold bigK;rw[decide_eq_false b1,decide_eq_false b2];rfl,Bool.false_or])
      go_wp2
      go_roundw
      case rel=>exact⟨k+1,by omega,by go_num,HF.out,HBE.out⟩
      case measure=>simp[intOf];omega
   ·obtain rfl:k=n:=by omega
    have hi1: ¬(k:Int)<(k:Int):=by omega
    have HF:Hid (R=false):=Lib.hid (by rw[HRUN.out,List.drop_of_length_le (Nat.le_of_eq HN.out)];rfl)
    go_wp2
    go_ret
    exact⟨by rw[HF.out];rfl,HBE.out⟩
end Go.Proofs.YtceddodfddlncaaGreatDoor
