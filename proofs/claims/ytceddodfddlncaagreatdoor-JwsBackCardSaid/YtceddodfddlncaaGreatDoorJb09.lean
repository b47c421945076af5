
import Derived.Laws.MakeOwn
import Derived.Deep.AppendLies
import Derived.Great.BuildSlice
import Derived.Test.YtceddodfddlncaaGreatDoorJb08
set_option maxRecDepth 100000
set_option maxHeartbeats 16000000
set_option linter.all false
namespace Go.Proofs.YtceddodfddlncaaGreatDoor
open Go Go.RowKit
def zbk (l:List Int):Nat→Int
 |0=>0
 |k+1=>zbk l k*64+(if k<l.length then wo (l.getD k 0)else 0)
def Good (l:List Int):Prop:= ∀k,k<l.length→wo (l.getD k 0)≠64
theorem zhe (l:List Int) (h:Good l): ∀k,k≤4→0≤zbk l k∧zbk l k<64^k
 |0,_=>⟨Int.le_refl _,by show(0:Int)<64^0;decide⟩
 |k+1,hk=>by
  obtain⟨h0,h1⟩:=zhe l h k (by omega)
  have hw:0≤(if k<l.length then wo (l.getD k 0)else 0)∧(if k<l.length then wo (l.getD k 0)else 0)<64:=by
   split
   ·rename_i hk
    have:=h k hk
    have:=zco (l.getD k 0)
    omega
   ·decide
  have:(64:Int)^(k+1)=64^k*64:=by rw[Int.pow_succ]
  rw[zbk,this]
  omega
theorem zhf (s:ByteArray) (w:World) (_hs:s.size≤4) (hg:Good (strL s)):
  Calls Tryz.prog 93 #[.string s] w fun e w'=>e= .returned (.int .u32 (zbk (strL s) 4))∧w=w':=by
 have HG:=Lib.hid hg
 clear hg
 go_enter Tryz.func93,Tryz.ntmps93
 go_wp2
 go_loop [3,5] (fun v i=> ∃k:Nat,k≤4∧i= .int .i64 k∧v= .int .u32 (zbk (strL s) k)) (fun _ i=>4-(intOf i).toNat)
 case atStart=>exact⟨0,by omega,rfl,rfl⟩
 case round=>
  obtain⟨k,hk,rfl,rfl⟩:=hrel
  by_cases hlt:k<4
  ·have HB:=zhe (strL s) HG.out k hk
   have hx:0≤zbk (strL s) k∧zbk (strL s) k≤262143:=by
    have:k=0∨k=1∨k=2∨k=3:=by omega
    rcases this with rfl|rfl|rfl|rfl<;>constructor<;>omega
   obtain⟨x0,x1⟩:=hx
   clear HB
   by_cases hks:k<s.size
   ·have hgk:=HG.out k (by rw[zaQ];exact hks)
    have hwb:=zco ((strL s).getD k 0)
    rw[zbp s k hks]at hgk hwb
    have HS:Hid (zbk (strL s) (k+1)=zbk (strL s) k*64+wo (s[k].toNat:Int)):=Lib.hid (by rw[zbk,if_pos (by rw[zaQ];exact hks),zbp s k hks])
    have hb:(s[k].toNat:Int)≤255:=by have:=s[k].toNat_lt;omega
    have HO:Hid (bits .or .u32 (zbk (strL s) k*64) (wo (s[k].toNat:Int))=zbk (strL s) k*64+wo (s[k].toNat:Int)):=Lib.hid (or_6' _ _ (by omega) (by omega))
    obtain⟨w0,w1⟩:=hwb
    obtain⟨y,hy⟩: ∃y,y=wo (s[k].toNat:Int):=⟨_,rfl⟩
    have W:=zjJ (s[k].toNat:Int) w (by omega) hb
    rw[←hy]at w0 w1 HS HO W
    obtain⟨x,hxx⟩: ∃x,x=zbk (strL s) k:=⟨_,rfl⟩
    rw[←hxx]at x0 x1 HS HO⊢
    have HW:=Lib.hid W
    clear hgk hy hxx W
    go_wp2_with(go_at_call 124;refine HW.out.mono ?_;rintro e w' ⟨rfl,rfl⟩)
    go_round
    case rel=>exact⟨k+1,by omega,by go_num,by rw[HS.out,HO.out]⟩
    case measure=>simp[intOf];omega
   ·have HS:Hid (zbk (strL s) (k+1)=zbk (strL s) k*64+0):=Lib.hid (by rw[zbk,if_neg (by rw[zaQ];exact hks)])
    obtain⟨x,hxx⟩: ∃x,x=zbk (strL s) k:=⟨_,rfl⟩
    rw[←hxx]at x0 x1 HS⊢
    clear hxx
    go_wp2
    go_round
    case rel=>exact⟨k+1,by omega,by go_num,by rw[HS.out,Int.add_zero]⟩
    case measure=>simp[intOf];omega
  ·have hk4:k=4:=by omega
   subst hk4
   go_wp2
   go_ret
   exact⟨rfl,rfl⟩
def FaultRes (s:ByteArray) (w:World) (e:Ending) (w':World):Prop:=
 (zas (strL s)= -1∧e= .returned .nilIface∧w'=w)∨
 (0≤zas (strL s)∧e= .returned (.iface 188 (.pointer (some ⟨w.heap.size,0,none⟩)))∧w'=w.alloc (.cells (zkp (zas (strL s)) 20) 190))
theorem FaultRes.at {s:ByteArray} {w:World} {p:Int} (h:zas (strL s)=p) (h0:0≤p):FaultRes s w (.returned (.iface 188 (.pointer (some ⟨w.heap.size,0,none⟩)))) (w.alloc (.cells (zkp p 20) 190)):=
 .inr ⟨by omega,rfl,by rw[h]⟩
theorem fault_any (s:ByteArray) (w:World) (h:s.size≤65536):
  Calls Tryz.prog 92 #[.string s] w (FaultRes s w):=by
 have HL:=zkk (strL s)
 rw[zaQ]at HL
 have HG:=Lib.hid (zcV (strL s))
 have HBd:=Lib.hid (badL_bad (strL s))
 obtain⟨q,hq⟩: ∃q,q=badL (strL s):=⟨_,rfl⟩
 have HF:Hid (zas (strL s)=if q<s.size then(q:Int)else if s.size%4=0 then-1 else if s.size%4=1 then(s.size:Int)else if zfm (strL s)=0 then-1 else(s.size:Int)-1):=Lib.hid (by
  unfold zas;rw[←hq,zaQ])
 rw[←hq]at HL HG HBd
 clear hq
 go_enter Tryz.func92,Tryz.ntmps92
 go_wp2
 go_loop [12] (fun i=> ∃k:Nat,k≤q∧i= .int .i64 k) (fun i=>q-(intOf i).toNat)
 case atStart=>exact⟨0,by omega,rfl⟩
 case round=>
  obtain⟨k,hk,rfl⟩:=hrel
  by_cases hlt:k<s.size
  ·have hb:(s[k].toNat:Int)≤255:=by have:=s[k].toNat_lt;omega
   have hwb:=zco (s[k].toNat:Int)
   have HW:=Lib.hid (zjJ (s[k].toNat:Int) w (by omega) hb)
   by_cases hkq:k<q
   ·have hne:((wo (s[k].toNat:Int))==64)=false:=by
     have:=HG.out k hkq
     rw[zbp s k hlt]at this
     simpa using this
    go_wp2_with(go_at_call 124;refine HW.out.mono ?_;rintro e w' ⟨rfl,rfl⟩)
    go_round
    case rel=>exact⟨k+1,by omega,by go_num⟩
    case measure=>simp[intOf];omega
   ·have hkk:k=q:=by omega
    have he:((wo (s[k].toNat:Int))==64)=true:=by
     have:=HBd.out (by rw[zaQ];omega)
     rw[←hkk,zbp s k hlt]at this
     simpa using this
    have HP:Hid (zas (strL s)=(k:Int)):=Lib.hid (by rw[HF.out,if_pos (by omega)];omega)
    clear hkk
    go_wp2_with(first
     |(go_at_call 124;refine HW.out.mono ?_;rintro e w' ⟨rfl,rfl⟩)
     |(go_at_call 125;refine(at_any _ _).mono ?_;rintro e w' ⟨rfl,rfl⟩))
    go_ret
    exact FaultRes.at HP.out (by omega)
  ·have hqs: ¬q<s.size:=by omega
   by_cases m0:s.size%4=0
   ·have HP:Hid (zas (strL s)= -1):=Lib.hid (by rw[HF.out,if_neg hqs,if_pos m0])
    have b0:(((s.size:Int)%4)==0)=true:=by simp;omega
    clear m0
    go_wp2
    go_ret
    exact .inl ⟨HP.out,rfl,rfl⟩
   ·have b0:(((s.size:Int)%4)==0)=false:=by simp;omega
    by_cases m1:s.size%4=1
    ·have HP:Hid (zas (strL s)=(s.size:Int)):=Lib.hid (by rw[HF.out,if_neg hqs,if_neg m0,if_pos m1])
     have b1:(((s.size:Int)%4)==1)=true:=by simp;omega
     clear m0 m1
     go_wp2_with(go_at_call 125;refine(at_any _ _).mono ?_;rintro e w' ⟨rfl,rfl⟩)
     go_ret
     exact FaultRes.at HP.out (by omega)
    ·have m2:s.size%4=2∨s.size%4=3:=by omega
     have hl:s.size-1<s.size:=by omega
     have hb:(s[s.size-1].toNat:Int)≤255:=by have:=s[s.size-1].toNat_lt;omega
     have HW:=Lib.hid (zjJ (s[s.size-1].toNat:Int) w (by omega) hb)
     have hwb:=zco (s[s.size-1].toNat:Int)
     obtain⟨y,hy⟩: ∃y,y=wo (s[s.size-1].toNat:Int):=⟨_,rfl⟩
     rw[←hy]at hwb
     obtain⟨y0,y1⟩:=hwb
     rcases m2 with m2|m2
     ·have e2:(s.size:Int)%4=2:=by omega
      have HLo:Hid (zfm (strL s)=y%16):=Lib.hid (by rw[zfm,zaQ,zbp s (s.size-1) hl,if_pos m2,hy])
      have HA:Hid (bits .and .i64 y 15=y%16):=Lib.hid (zef y 4 (by decide) y0 (by omega))
      obtain⟨r,hr⟩: ∃r,r=y%16:=⟨_,rfl⟩
      have hr0:0≤r:=by omega
      rw[←hr]at HLo HA
      have HW2:Hid (Calls Tryz.prog 124 #[.int .u8 (s[s.size-1].toNat:Int)] w fun e w'=>e= .returned (.int .i64 y)∧w=w'):=Lib.hid (by rw[hy];exact HW.out)
      have ha:=HA.out
      clear hy hr m0 m1 b0 HW HA m2
      by_cases hz:r=0
      ·have HP:Hid (zas (strL s)= -1):=Lib.hid (by rw[HF.out,if_neg hqs,if_neg (by omega),if_neg (by omega),if_pos (by rw[HLo.out];exact hz)])
       subst hz
       go_wp2_with(first
        |(go_at_call 124;refine HW2.out.mono ?_;rintro e w' ⟨rfl,rfl⟩)
        |(go_at_call 126;refine(loose_two _).mono ?_;rintro e w' ⟨rfl,rfl⟩))
       go_ret
       exact .inl ⟨HP.out,rfl,rfl⟩
      ·have HP:Hid (zas (strL s)=(s.size:Int)-1):=Lib.hid (by rw[HF.out,if_neg hqs,if_neg (by omega),if_neg (by omega),if_neg (by rw[HLo.out];exact hz)])
       have hz2:(r !=0)=true:=by simpa using hz
       clear hz
       go_wp2_with(first
        |(go_at_call 124;refine HW2.out.mono ?_;rintro e w' ⟨rfl,rfl⟩)
        |(go_at_call 126;refine(loose_two _).mono ?_;rintro e w' ⟨rfl,rfl⟩)
        |(go_at_call 125;refine(at_any _ _).mono ?_;rintro e w' ⟨rfl,rfl⟩))
       go_ret
       exact FaultRes.at HP.out (by omega)
     ·have e2:(s.size:Int)%4=3:=by omega
      have HLo:Hid (zfm (strL s)=y%4):=Lib.hid (by rw[zfm,zaQ,zbp s (s.size-1) hl,if_neg (by omega),hy])
      have HA:Hid (bits .and .i64 y 3=y%4):=Lib.hid (zef y 2 (by decide) y0 (by omega))
      obtain⟨r,hr⟩: ∃r,r=y%4:=⟨_,rfl⟩
      have hr0:0≤r:=by omega
      rw[←hr]at HLo HA
      have HW2:Hid (Calls Tryz.prog 124 #[.int .u8 (s[s.size-1].toNat:Int)] w fun e w'=>e= .returned (.int .i64 y)∧w=w'):=Lib.hid (by rw[hy];exact HW.out)
      have ha:=HA.out
      clear hy hr m0 m1 b0 HW HA m2
      by_cases hz:r=0
      ·have HP:Hid (zas (strL s)= -1):=Lib.hid (by rw[HF.out,if_neg hqs,if_neg (by omega),if_neg (by omega),if_pos (by rw[HLo.out];exact hz)])
       subst hz
       go_wp2_with(first
        |(go_at_call 124;refine HW2.out.mono ?_;rintro e w' ⟨rfl,rfl⟩)
        |(go_at_call 126;refine(zjx _).mono ?_;rintro e w' ⟨rfl,rfl⟩))
       go_ret
       exact .inl ⟨HP.out,rfl,rfl⟩
      ·have HP:Hid (zas (strL s)=(s.size:Int)-1):=Lib.hid (by rw[HF.out,if_neg hqs,if_neg (by omega),if_neg (by omega),if_neg (by rw[HLo.out];exact hz)])
       have hz2:(r !=0)=true:=by simpa using hz
       clear hz
       go_wp2_with(first
        |(go_at_call 124;refine HW2.out.mono ?_;rintro e w' ⟨rfl,rfl⟩)
        |(go_at_call 126;refine(zjx _).mono ?_;rintro e w' ⟨rfl,rfl⟩)
        |(go_at_call 125;refine(at_any _ _).mono ?_;rintro e w' ⟨rfl,rfl⟩))
       go_ret
       exact FaultRes.at HP.out (by omega)
theorem fault_right (s:ByteArray) (w:World) (h:s.size≤65536) (hf:zas (strL s)= -1):
  Calls Tryz.prog 92 #[.string s] w fun e w'=>e= .returned .nilIface∧w=w':=
 (fault_any s w h).mono fun e w' hr=>by
  rcases hr with⟨_,he,hw⟩|⟨h0,_,_⟩
  ·exact⟨he,hw.symm⟩
  ·omega
theorem fault_wrong (s:ByteArray) (w:World) (h:s.size≤65536) (hf: ¬zas (strL s)= -1):
  Calls Tryz.prog 92 #[.string s] w fun e w'=>e= .returned (.iface 188 (.pointer (some ⟨w.heap.size,0,none⟩)))∧w'=w.alloc (.cells (zkp (zas (strL s)) 20) 190):=
 (fault_any s w h).mono fun e w' hr=>by
  rcases hr with⟨h0,_,_⟩|⟨_,he,hw⟩
  ·exact absurd h0 hf
  ·exact⟨he,hw⟩
theorem info5b:(Tryz.prog.info? 5).map (fun i=>(i.zero,i.size,i.bytes))=some (some (.int .u8 0),1,1):=by kernel_rfl
theorem Good.of_fault {l:List Int} (h:zas l= -1):Good l:=fun k hk=>by
 have hle:=zkk l
 unfold zas at h
 refine zcV l k ?_
 split at h<;>omega
theorem Good.part {l:List Int} (h:Good l) (a b:Nat):Good ((l.take b).drop a):=fun k hk=>by
 simp only[List.length_drop,List.length_take]at hk
 have:=h (a+k) (by omega)
 rw[List.getD_eq_getElem?_getD,List.getElem?_drop,List.getElem?_take,if_pos (by omega),←List.getD_eq_getElem?_getD]
 exact this
theorem four_of {l:List Int} (h:l.length=4): ∃a b c d,l=[a,b,c,d]:=by
 match l,h with
 |[a,b,c,d],_=>exact⟨a,b,c,d,rfl⟩
theorem joinSk_four (a b c d:Int):zbk [a,b,c,d] 4=((wo a*64+wo b)*64+wo c)*64+wo d:=by
 simp[zbk]
theorem dec_group (l:List Int) (h4:l.length=4) (hg:Good l):
  decL l=[zbk l 4/65536,zbk l 4/256%256,zbk l 4%256]:=by
 obtain⟨a,b,c,d,rfl⟩:=four_of h4
 have ga:=hg 0 (by simp)
 have gb:=hg 1 (by simp)
 have gc:=hg 2 (by simp)
 have gd:=hg 3 (by simp)
 simp only[List.getD_cons_zero,List.getD_cons_succ]at ga gb gc gd
 have ba:=zco a
 have bb:=zco b
 have bc:=zco c
 have bd:=zco d
 rw[joinSk_four]
 simp only[decL]
 congr 1
 ·omega
 ·congr 1
  ·omega
  ·congr 1;omega
theorem dec_three (l:List Int) (h4:l.length=3) (hg:Good l):decL l=[zbk l 4/65536,zbk l 4/256%256]:=by
 match l,h4 with
 |[a,b,c],_=>
  have ga:=hg 0 (by simp)
  have gb:=hg 1 (by simp)
  have gc:=hg 2 (by simp)
  simp only[List.getD_cons_zero,List.getD_cons_succ]at ga gb gc
  have ba:=zco a
  have bb:=zco b
  have bc:=zco c
  simp[decL,zbk]
  omega
theorem dec_two (l:List Int) (h4:l.length=2) (hg:Good l):decL l=[zbk l 4/65536]:=by
 match l,h4 with
 |[a,b],_=>
  have ga:=hg 0 (by simp)
  have gb:=hg 1 (by simp)
  simp only[List.getD_cons_zero,List.getD_cons_succ]at ga gb
  have ba:=zco a
  have bb:=zco b
  simp[decL,zbk]
  omega
theorem Lies.alloc_row (w:World) (t:TypeId) (cs:List Int) (xs:List Int) (h: ∀(j:Nat) (v:Value),(ints .u8 xs)[j]? =some v→(ints .u8 cs)[j]? =some v):Lies (w.alloc (.cells (ints .u8 cs).toArray t)) (some ⟨w.heap.size,0,none⟩) xs:=
 Lies.blk (t:=t) (cs:=ints .u8 cs) (heap_alloc_new w _) (fun j v hv=>by rw[Nat.zero_add];exact h j v hv)
theorem znc (s:ByteArray) (w:World) (hs:s.size=0∨s.size=2∨s.size=3) (hg:Good (strL s)):
  Calls Tryz.prog 94 #[.string s] w fun e w'=>e= .returned (.slice (some ⟨w.heap.size,0,none⟩) (decL (strL s)).length 3)∧Lies w' (some ⟨w.heap.size,0,none⟩) (decL (strL s))∧Below w.heap.size w w':=by
 have HJ:=fun(W:World)=>zhf s W (by omega) hg
 have hb:=zhe (strL s) hg 4 (by omega)
 have hlen:=zaQ s
 rcases hs with hs|hs|hs
 ·have hd:decL (strL s)=[]:=by
   rw[hs]at hlen
   rw[List.eq_nil_of_length_eq_zero hlen];rfl
  rw[hd]
  have HS:=Lib.hid hs
  obtain⟨x,hx⟩: ∃x,x=zbk (strL s) 4:=⟨_,rfl⟩
  rw[←hx]at HJ
  clear hx hb hlen hd hg
  go_enter Tryz.func94,Tryz.ntmps94
  go_wp2_with(go_at_call 93;refine(HJ _).mono ?_;rintro e w' ⟨rfl,rfl⟩)
  go_ret
  exact⟨rfl,fun h=>absurd h (by simp),zad _ _⟩
 ·have hd:=dec_two (strL s) (by rw[hlen];exact hs) hg
  rw[hd]
  obtain⟨x,hx⟩: ∃x,x=zbk (strL s) 4:=⟨_,rfl⟩
  rw[←hx]at HJ hb⊢
  obtain⟨b0,b1⟩:=hb
  replace b1:x≤16777215:=by omega
  clear hx hlen hd hg
  go_enter Tryz.func94,Tryz.ntmps94
  go_wp2_with(go_at_call 93;refine(HJ _).mono ?_;rintro e w' ⟨rfl,rfl⟩)
  go_ret
  exact⟨rfl,Lies.alloc_row w 185 [x/65536,0,0] _ (fun j v hv=>by match j,hv with|0,hv=>exact hv),zad _ _⟩
 ·have hd:=dec_three (strL s) (by rw[hlen];exact hs) hg
  rw[hd]
  obtain⟨x,hx⟩: ∃x,x=zbk (strL s) 4:=⟨_,rfl⟩
  rw[←hx]at HJ hb⊢
  obtain⟨b0,b1⟩:=hb
  replace b1:x≤16777215:=by omega
  clear hx hlen hd hg
  go_enter Tryz.func94,Tryz.ntmps94
  go_wp2_with(go_at_call 93;refine(HJ _).mono ?_;rintro e w' ⟨rfl,rfl⟩)
  go_ret
  exact⟨rfl,Lies.alloc_row w 185 [x/65536,x/256%256,0] _ (fun j v hv=>by match j,hv with|0,hv=>exact hv|1,hv=>exact hv),zad _ _⟩
theorem dec_cut (l:List Int) (j:Nat) (h4:j%4=0) (hj:j≤l.length) (k:Nat) (hk:j≤k):decL (l.take k)=decL (l.take j)++decL ((l.take k).drop j):=by
 have e:l.take k=l.take j++(l.take k).drop j:=by
  have:=List.take_append_drop j (l.take k)
  rw[List.take_take,Nat.min_eq_left hk]at this
  exact this.symm
 rw[←zkf _ _ (by rw[List.length_take,Nat.min_eq_left hj];exact h4),←e]
def DecRight (s:ByteArray) (w:World) (e:Ending) (w':World):Prop:=
 ∃A c,e= .returned (.tuple #[.slice A (decL (strL s)).length c,.nilIface])∧(decL (strL s)).length≤c∧Lies w' A (decL (strL s))∧Below w.heap.size w w'
theorem zfq (s:ByteArray) (w:World) (h:s.size≤65536) (hf: ¬zas (strL s)= -1):
  Calls Tryz.prog 63 #[.string s] w fun e w'=>e= .returned (.tuple #[.slice none 0 0,.iface 188 (.pointer (some ⟨w.heap.size,0,none⟩))])∧w'=w.alloc (.cells (zkp (zas (strL s)) 20) 190):=by
 have HF:Hid (¬zas (strL s)= -1):=Lib.hid hf
 clear hf
 go_enter Tryz.func63,Tryz.ntmps63
 go_wp2_with(go_at_call 92;refine(fault_wrong s _ h HF.out).mono ?_;rintro e w' ⟨rfl,rfl⟩)
 go_ret2
 exact⟨rfl,rfl⟩
theorem zfr (s:ByteArray) (w:World) (h:s.size≤65536) (hf:zas (strL s)= -1):
  Calls Tryz.prog 63 #[.string s] w (DecRight s w):=by
 have hgood:=Good.of_fault hf
 have HF:Hid (zas (strL s)= -1):=Lib.hid hf
 obtain⟨i0,hi0,hz0,hz1,hz2⟩:=info_parts info5b
 obtain⟨wm,hrun,hown0,hgr0⟩:=run_make_own (P:=Tryz.prog) w w.heap.size 46 5 i0 (.int .u8 0) 1 Tryz.underlying46 hi0 hz0 hz1 .i64 .i64 (s.size*6/8) (by rw[hz2];omega) (by unfold maxLen;omega) (Nat.le_refl _)
 rw[show((s.size*6/8:Nat):Int)=(s.size:Int)*6/8 from by omega]at hrun
 have hbel0:Below w.heap.size w wm:=⟨hgr0.os,hgr0.tape,hgr0.output,hgr0.size,fun k hk=>hgr0.block k hk (by simp)⟩
 obtain⟨c0,hc0⟩: ∃c0,c0=s.size*6/8:=⟨_,rfl⟩
 rw[←hc0]at hrun hown0
 obtain⟨B,hB⟩: ∃B,B=w.heap.size:=⟨_,rfl⟩
 rw[←hB]at hrun hown0 hbel0
 have HOWN:=Lib.hid hown0
 have HBEL:=Lib.hid hbel0
 have HB:=Lib.hid hB
 have HGOOD:=Lib.hid hgood
 clear hf hc0 hgr0 hown0 hbel0 hB hgood
 go_enter Tryz.func63,Tryz.ntmps63
 go_wp2_with(go_at_call 92;refine(fault_right s _ h HF.out).mono ?_;rintro e w' ⟨rfl,rfl⟩)
 go_loopw[6,7] (fun v i wr=> ∃j:Nat,j%4=0∧j≤s.size∧i= .int .i64 j∧wr.ownsRow B 5 1 v (decL ((strL s).take j)).length (ints .u8 (decL ((strL s).take j)))∧Below B w wr) (fun _ i _=>s.size-(intOf i).toNat)
 case atStart=>exact⟨0,by omega,by omega,rfl,HOWN.out,HBEL.out⟩
 case round=>
  clear HOWN HBEL hrun
  obtain⟨j,hj4,hj,rfl,hown,hbel⟩:=hrel
  have HOW:=Lib.hid hown
  have HBE:=Lib.hid hbel
  clear hown hbel
  by_cases hlt:j+4≤s.size
  ·have hl1:(j:Int)<(s.size:Int)-(s.size:Int)%4:=by omega
   have HC:=Lib.hid (dec_cut (strL s) j hj4 (by rw[zaQ];exact hj) (j+4) (by omega))
   have HGP:Hid (Good (((strL s).take (j+4)).drop j)):=Lib.hid (HGOOD.out.part j (j+4))
   have hpl:(((strL s).take (j+4)).drop j).length=4:=by rw[List.length_drop,List.length_take,zaQ];omega
   have HG:=Lib.hid (dec_group _ hpl HGP.out)
   have hxb:=zhe _ HGP.out 4 (by omega)
   have HJ:Hid (∀W:World,Calls Tryz.prog 93 #[.string (s.extract j (j+4))] W fun e w'=>e= .returned (.int .u32 (zbk (((strL s).take (j+4)).drop j) 4))∧W=w'):=Lib.hid fun W=>by
    have:=zhf (s.extract j (j+4)) W (by rw[←zaQ,zax,hpl];omega) (by rw[zax];exact HGP.out)
    rw[zax]at this
    exact this
   obtain⟨x,hx⟩: ∃x,x=zbk (((strL s).take (j+4)).drop j) 4:=⟨_,rfl⟩
   rw[←hx]at HG HJ hxb
   obtain⟨x0,x1⟩:=hxb
   replace x1:x≤16777215:=by omega
   have hg':=HG.out
   have HQ:Hid (decL ((strL s).take (j+4))=decL ((strL s).take j)++[x/65536,x/256%256,x%256]):=Lib.hid (by rw[HC.out,hg'])
   have hn:(decL ((strL s).take j)).length≤65536:=by rw[zdy,List.length_take,zaQ];omega
   obtain⟨n,hnn⟩: ∃n,n=(decL ((strL s).take j)).length:=⟨_,rfl⟩
   obtain⟨D,hD⟩: ∃D,D=decL ((strL s).take j):=⟨_,rfl⟩
   rw[←hD]at hnn HQ HOW hn
   rw[←hnn]at HOW hn
   have HQN:Hid (n+3=(decL ((strL s).take (j+4))).length):=Lib.hid (by rw[HQ.out,List.length_append,←hnn];rfl)
   have hsz:B≤wr.heap.size:=by have:=HBE.out.size;rw[←HB.out]at this;exact this
   clear hx HG HC HGP hpl hnn hg' hD
   go_wp2_with(first
    |(go_at_call 93;refine(HJ.out _).mono ?_;rintro e w' ⟨rfl,rfl⟩)
    |(at_builtin;refine wpList_append_own _ rfl (.tmp 36) (.tmp 45) 46 rfl B 5 i0 (.int .u8 0) 1 1 Tryz.underlying46 hi0 hz0 hz1 hz2 rfl (by decide) _ n _ rfl (HOW.out.alloc _) ⟨wr.heap.size,0,none⟩ 3 3 [.int .u8 (x/65536),.int .u8 (x/256%256),.int .u8 (x%256)] rfl rfl ?c1 ?c2 ?c3 ?c4 ?c5 ?_))
   case c1=>
    intro t u hu
    rw[Addr.add_mid,cell_of_row _ _ _ _ _ _ (heap_alloc_new wr _),Nat.zero_add]
    simpa using hu
   case c2=>intro u hu;simp at hu;rcases hu with rfl|rfl|rfl<;>rfl
   case c3=>unfold maxLen;omega
   case c4=>omega
   case c5=>simp;omega
   intro v' w' hown' hgr _
   have HW:Hid (w'.ownsRow B 5 1 v' (decL ((strL s).take (j+4))).length (ints .u8 (decL ((strL s).take (j+4))))∧Below B w w'):=Lib.hid ⟨by
    rw[←HQN.out,HQ.out,zbK];exact hown',(HBE.out.alloc hsz _).grown hgr (by simp;omega) (zdf HOW.out)⟩
   clear hown' hgr
   go_wp2_with fail
   go_roundw
   case rel=>exact⟨j+4,by omega,by omega,by go_num,HW.out.1,HW.out.2⟩
   case measure=>simp[intOf];omega
  ·have hl1: ¬(j:Int)<(s.size:Int)-(s.size:Int)%4:=by omega
   have hjj:j=s.size-s.size%4:=by omega
   have hm1:s.size%4≠1:=by
    have:=HF.out
    have hle:=zkk (strL s)
    unfold zas at this
    rw[zaQ]at this hle
    intro e1
    rw[e1]at this
    split at this
    ·omega
    ·rw[if_neg (by decide),if_pos rfl]at this;omega
   have HC:Hid (decL (strL s)=decL ((strL s).take j)++decL ((strL s).drop j)):=Lib.hid (by
    have:=dec_cut (strL s) j hj4 (by rw[zaQ];exact hj) s.size hj
    rw[List.take_of_length_le (by rw[zaQ];omega)]at this
    exact this)
   have HLB:Hid (∀W:World,Calls Tryz.prog 94 #[.string (s.extract (s.size-s.size%4) s.size)] W fun e w'=>e= .returned (.slice (some ⟨W.heap.size,0,none⟩) (decL ((strL s).drop j)).length 3)∧Lies w' (some ⟨W.heap.size,0,none⟩) (decL ((strL s).drop j))∧Below W.heap.size W w'):=Lib.hid fun W=>by
    have e1:strL (s.extract (s.size-s.size%4) s.size)=(strL s).drop j:=by
     rw[zax,←hjj,List.take_of_length_le (by rw[zaQ];omega)]
    have hz:(s.extract (s.size-s.size%4) s.size).size=s.size%4:=by
     rw[←zaQ,e1,List.length_drop,zaQ];omega
    have:=znc (s.extract (s.size-s.size%4) s.size) W (by rw[hz];omega) (by
     rw[e1]
     have:=HGOOD.out.part j s.size
     rw[List.take_of_length_le (by rw[zaQ];omega)]at this
     exact this)
    rw[e1]at this
    exact this
   have hn:(decL ((strL s).take j)).length≤65536:=by rw[zdy,List.length_take,zaQ];omega
   have hm:(decL ((strL s).drop j)).length≤65536:=by rw[zdy,List.length_drop,zaQ];omega
   obtain⟨E,hE⟩: ∃E,E=decL ((strL s).drop j):=⟨_,rfl⟩
   obtain⟨D,hD⟩: ∃D,D=decL ((strL s).take j):=⟨_,rfl⟩
   rw[←hE]at HC HLB hm
   rw[←hD]at HC HOW hn
   obtain⟨n,hnn⟩: ∃n,n=D.length:=⟨_,rfl⟩
   obtain⟨m,hmm⟩: ∃m,m=E.length:=⟨_,rfl⟩
   rw[←hnn]at HOW hn
   rw[←hmm]at HLB hm
   have HNM:Hid (n=D.length∧m=E.length):=Lib.hid ⟨hnn,hmm⟩
   have hsz:B≤wr.heap.size:=by have:=HBE.out.size;rw[←HB.out]at this;exact this
   clear hE hD hnn hmm hjj hm1
   have HNEW:=Lib.hid (fun(w1:World) (hlie:Lies w1 (some ⟨wr.heap.size,0,none⟩) E)=>show ∀(t:Nat) (u:Value),(ints .u8 E)[t]? =some u→w1.cell? ((⟨wr.heap.size,0,none⟩:Addr).add t)=some u from fun t u hu=>by
    have ht:=(List.getElem?_eq_some_iff.1 hu).1
    rw[length_ints]at ht
    obtain⟨b,o,he,_,_,hc⟩:=hlie (by omega)
    injection he with he
    injection he with he1 he2 _
    subst he1;subst he2
    rw[Addr.add_mid]
    exact hc t u hu)
   go_wp2_with(first
    |(go_at_call 94;refine(HLB.out _).mono ?_;rintro e w1 ⟨rfl,hlie,hb1⟩;have HO1:=Lib.hid (HOW.out.kept (w':=w1) (row:=none) (zaX hb1 none) (Classical.em _));have HBE1:=Lib.hid (HBE.out.trans (hb1.mono hsz));have hsz1:B≤w1.heap.size:=Nat.le_trans hsz hb1.size;have HN1:=Lib.hid (HNEW.out w1 hlie);clear hlie hb1)
    |(at_builtin;refine wpList_append_own _ rfl (.tmp 47) (.tmp 51) 46 rfl B 5 i0 (.int .u8 0) 1 1 Tryz.underlying46 hi0 hz0 hz1 hz2 rfl (by decide) _ n _ rfl HO1.out ⟨wr.heap.size,0,none⟩ m 3 (ints .u8 E) rfl ?c1 HN1.out (zal _ _) ?c3 ?c4 hsz1 ?_))
   case c1=>rw[length_ints,HNM.out.2,Nat.mul_one]
   case c3=>unfold maxLen;omega
   case c4=>omega
   intro v' w2 hown2 hgr _
   have hbel2:Below B w w2:=HBE1.out.grown hgr hsz1 (zdf HO1.out)
   rw[←zbK]at hown2
   obtain⟨A,c,rfl,hc,hlie⟩:=znZ hown2 (by rw[List.length_append,←HNM.out.1,←HNM.out.2])
   have hlen:n+m=(decL (strL s)).length:=by rw[HC.out,List.length_append,←HNM.out.1,←HNM.out.2]
   have HR:Hid (n+m=(decL (strL s)).length∧n+m≤c∧Lies w2 A (decL (strL s))∧Below w.heap.size w w2):=Lib.hid ⟨hlen,hc,by rw[HC.out];exact hlie,by rw[←HB.out];exact hbel2⟩
   clear hown2 hgr hbel2 hc hlie hlen
   go_wp2_with fail
   go_ret2
   exact⟨A,c,by rw[←HR.out.1];rfl,by rw[←HR.out.1];exact HR.out.2.1,HR.out.2.2⟩
theorem RepJ.open {W:World} {j:J} {v:Value} (h:RepJ W j v): ∃vk A c,v= .agg #[.int .i64 j.kind,.int .i64 j.n,.string j.s,.slice A j.l.length c,vk]∧j.s.size≤9223372036854775807∧RepK W j.k vk∧j.l.length≤9223372036854775807∧
  (j.l≠[]→ ∃b o,A=some ⟨b,o,none⟩∧b<W.heap.size∧RepC W b o j.l):=by
 cases j;rw[RepJ]at h;exact h
theorem RepK.open {W:World} {k:List ByteArray} {v:Value} (h:RepK W k v): ∃A c,v= .slice A k.length c∧k.length≤9223372036854775807∧ ∀i (hi:i<k.length),∃b o,A=some ⟨b,o,none⟩∧b<W.heap.size∧(k[i]).size≤9223372036854775807∧W.cell? ⟨b,o+i,none⟩=some (.string k[i]):=by
 obtain⟨A,c,e,hl,hc⟩:=h
 refine⟨A,c,e,hl,fun i hi=> ?_⟩
 obtain⟨b,o,e1,hlt,hcs⟩:=hc (fun e=>by rw[e]at hi;exact absurd hi (Nat.not_lt_zero _))
 obtain⟨t,h1,h2,h3⟩:=hcs i hi
 rw[List.getElem?_eq_getElem hi]at h1
 obtain rfl:=Option.some.inj h1
 exact⟨b,o,e1,hlt,h2,h3⟩
theorem zlc: ∀{l m:List J},zdw l m=true↔l.length=m.length∧ ∀i (h1:i<l.length) (h2:i<m.length),zhZ l[i] m[i]=true
 |[],[]=>by simp[zdw]
 |[],_::_=>by simp[zdw]
 |_::_,[]=>by simp[zdw]
 |x::r,y::t=>by
  rw[zdw,Bool.and_eq_true,zlc (l:=r) (m:=t)]
  constructor
  ·rintro⟨h1,h2,h3⟩
   refine⟨by simp[h2],fun i hi1 hi2=> ?_⟩
   cases i with
   |zero=>exact h1
   |succ i=>exact h3 i (by simpa using hi1) (by simpa using hi2)
  ·rintro⟨h1,h2⟩
   exact⟨h2 0 (by simp) (by simp),by simpa using h1,fun i hi1 hi2=>h2 (i+1) (by simpa using hi1) (by simpa using hi2)⟩
theorem beq_str {a b:ByteArray} (h:a=b):(a.toList==b.toList)=true:=by rw[zcK];exact decide_eq_true h
theorem zmc {a b:ByteArray} (h:a≠b):(a.toList==b.toList)=false:=by rw[zcK];exact decide_eq_false h
def atL (l:List Int) (i:Nat):Int:=l.getD i (-1)
theorem atL_get (s:ByteArray) (i:Nat) (h:i<s.size):atL (strL s) i=(s[i].toNat:Int):=by
 rw[←zbp s i h,atL]
 have h2:i<(strL s).length:=by rw[zaQ];exact h
 rw[List.getD_eq_getElem?_getD,List.getD_eq_getElem?_getD,List.getElem?_eq_getElem h2]
 rfl
theorem atL_end (s:ByteArray) (i:Nat) (h:s.size≤i):atL (strL s) i= -1:=by
 rw[atL,List.getD_eq_getElem?_getD,List.getElem?_eq_none (by rw[zaQ];exact h)]
 rfl
def isB (c:Int):Bool:=decide (c=32∨c=9∨c=10∨c=13)
def zaW (l:List Int) (i:Nat):Nat:=if h:i<l.length then(if isB (atL l i)then zaW l (i+1)else i)else i
termination_by l.length-i
decreasing_by omega
theorem zjg {l:List Int} {i:Nat} (h:isB (atL l i)=true):zaW l i=zaW l (i+1):=by
 by_cases hl:i<l.length
 ·rw[zaW,dif_pos hl,if_pos h]
 ·exfalso
  rw[atL,List.getD_eq_getElem?_getD,List.getElem?_eq_none (by omega)]at h
  exact absurd h (by decide)
theorem zbu {l:List Int} {i:Nat} (h: ¬isB (atL l i)=true):zaW l i=i:=by
 by_cases hl:i<l.length
 ·rw[zaW,dif_pos hl,if_neg h]
 ·rw[zaW,dif_neg hl]
theorem zgz: ∀(n:Nat) (l:List Int) (i:Nat),l.length-i≤n→i≤l.length→i≤zaW l i∧zaW l i≤l.length
 |0,l,i,hn,hi=>by rw[zaW,dif_neg (by omega)];omega
 |n+1,l,i,hn,hi=>by
  rw[zaW]
  split
  ·split
   ·have:=zgz n l (i+1) (by omega) (by omega)
    omega
   ·omega
  ·omega
def zci (l:List Int):Nat→List Int→Nat×Int
 |i,[]=>(i,0)
 |i,c::r=>if atL l i=c then zci l (i+1) r else(i,50)
theorem wordL_drop {l x:List Int} {i k:Nat} (h:k<x.length):zci l i (x.drop k)=if atL l i=x.getD k 0 then zci l (i+1) (x.drop (k+1))else(i,50):=by
 rw[List.drop_eq_getElem_cons h,zci,List.getD_eq_getElem?_getD,List.getElem?_eq_getElem h]
 rfl
theorem atL_bd (s:ByteArray) (i:Nat): -1≤atL (strL s) i∧atL (strL s) i≤255:=by
 rcases Nat.lt_or_ge i s.size with h|h
 ·rw[atL_get s i h];have:=(s[i]).toNat_lt;omega
 ·rw[atL_end s i h];omega
def hexD (c:Int):Int:=if 48≤c∧c≤57 then c-48 else if 97≤c∧c≤102 then c-97+10 else if 65≤c∧c≤70 then c-65+10 else-1
def hexL (l:List Int):Nat→Nat→Int→Int×Int
 |0,_,n=>(n,0)
 |k+1,i,n=>if hexD (atL l i)<0 then(-1,((min i l.length:Nat):Int))else hexL l k (i+1) (16*n+hexD (atL l i))
def zay (c:Int):List Int:=if c=34∨c=92∨c=47 then[c]else if c=98 then[8]else if c=102 then[12]else if c=110 then[10]else if c=114 then[13]else if c=116 then[9]else[]
theorem zjk: ∀(l:List Int),runL (l.take (runL l))=runL l
 |[]=>rfl
 |c::r=>by
  by_cases h:isD c=true
  ·have e:runL (c::r)=runL r+1:=by rw[runL,if_pos h]
   rw[e,List.take_succ_cons,runL,if_pos h,zjk r]
  ·have e:runL (c::r)=0:=by rw[runL,if_neg h]
   rw[e];rfl
theorem getD_take0 (r:List Int) (k:Nat) (h:0<k):(r.take k).getD 0 0=r.getD 0 0:=by
 cases r with
 |nil=>simp
 |cons a t=>obtain⟨j,rfl⟩: ∃j,k=j+1:=⟨k-1,by omega⟩;rfl
theorem zkv {l:List Int} (h:zbY l≠0):zeV (l.take (zbY l))=true:=by
 have hle:=zfY l
 unfold zeV
 rw[decide_eq_true_eq]
 have hlen:(l.take (zbY l)).length=zbY l:=by rw[List.length_take];omega
 refine⟨fun e=>by rw[e]at hlen;exact h hlen.symm,?_⟩
 rw[hlen]
 cases l with
 |nil=>rfl
 |cons c r=>
  have e:zbY (c::r)=if c=45 then(if 49≤r.getD 0 0∧r.getD 0 0≤57 then runL r+1 else 0)else if c=48 then 1 else runL (c::r):=by rw[zbY]
  by_cases h45:c=45
  ·subst h45
   by_cases hd:49≤r.getD 0 0∧r.getD 0 0≤57
   ·rw[if_pos rfl,if_pos hd]at e
    rw[e,List.take_succ_cons,zbY,if_pos rfl,getD_take0 r _ (by
     cases r with
     |nil=>simp at hd
     |cons a t=>rw[List.getD_cons_zero]at hd;rw[runL,if_pos (isD_iff.2 (by omega))];omega),if_pos hd,zjk]
   ·rw[if_pos rfl,if_neg hd]at e
    exact absurd e h
  ·rw[if_neg h45]at e
   by_cases h48:c=48
   ·subst h48
    rw[if_pos rfl]at e
    rw[e];rfl
   ·rw[if_neg h48]at e
    have hr:runL (c::r)≠0:=by rw[←e];exact h
    obtain⟨j,hj⟩: ∃j,runL (c::r)=j+1:=⟨runL (c::r)-1,by omega⟩
    have ht:=zjk (c::r)
    rw[e]
    rw[hj]at ht⊢
    rw[List.take_succ_cons]at ht⊢
    rw[zbY,if_neg h45,if_neg h48]
    exact ht
def zdQ (s:ByteArray):Bool:=decide ((strL s).getD 0 0=45)
theorem hasDash_any (s:ByteArray) (w:World) (hs:s.size≤9223372036854775807):
  Calls Tryz.prog 229 #[.string s,.string ⟨#[45]⟩] w fun e w'=>e= .returned (.bool (zdQ s))∧w=w':=by
 have hlen:=zaQ s
 by_cases h1:1≤s.size
 ·have hge:(1:Int)≤(s.size:Int):=by omega
  have he:((s.extract 0 1).toList==[45])=zdQ s:=by
   rw[show([45]:List UInt8)=(⟨#[45]⟩:ByteArray).toList by rw[ByteArray.toList_eq],zcK,zdQ]
   have:s.extract 0 1=⟨#[45]⟩↔(strL s).getD 0 0=45:=by
    constructor
    ·intro h
     have:=congrArg strL h
     rw[zax]at this
     cases hl:strL s with
     |nil=>rw[hl]at hlen;simp at hlen;omega
     |cons c r=>
      rw[hl]at this
      simpa[strL]using this
    ·intro h
     apply zdb
     rw[zax]
     cases hl:strL s with
     |nil=>rw[hl]at hlen;simp at hlen;omega
     |cons c r=>
      rw[hl]at h
      rw[List.getD_cons_zero]at h
      subst h
      simp[strL]
   exact decide_eq_decide.2 this
  obtain⟨B,hB⟩: ∃B,B=zdQ s:=⟨_,rfl⟩
  rw[←hB]at he⊢
  clear hB hlen
  go_enter Tryz.func229,Tryz.ntmps229
  go_wp2
  go_ret
  exact⟨rfl,rfl⟩
 ·have hge: ¬(1:Int)≤(s.size:Int):=by omega
  have hd:Hid (zdQ s=false):=Lib.hid (by
   unfold zdQ
   rw[List.eq_nil_of_length_eq_zero (hlen.trans (by omega))];rfl)
  clear hlen
  go_enter Tryz.func229,Tryz.ntmps229
  go_wp2
  go_ret
  rw[hd.out]
  exact⟨rfl,rfl⟩
def zcj (s:ByteArray):ByteArray:=if zdQ s=true then s.extract 1 s.size else s
theorem dash_size {s:ByteArray} (h:zdQ s=true):1≤s.size:=by
 unfold zdQ at h
 rw[decide_eq_true_eq]at h
 rw[←zaQ]
 cases hl:strL s with
 |nil=>rw[hl]at h;simp at h
 |cons c r=>simp
theorem cutDash_any (s:ByteArray) (w:World) (hs:s.size≤9223372036854775807):
  Calls Tryz.prog 226 #[.string s,.string ⟨#[45]⟩] w fun e w'=>e= .returned (.tuple #[.string (zcj s),.bool (zdQ s)])∧w=w':=by
 have HP:=Lib.hid (hasDash_any s w hs)
 cases hd:zdQ s with
 |true=>
  rw[hd]at HP
  have hge:(1:Int)≤(s.size:Int):=by have:=dash_size hd;omega
  have HR:Hid (zcj s=s.extract 1 s.size):=Lib.hid (by unfold zcj;rw[if_pos hd])
  clear hd
  go_enter Tryz.func226,Tryz.ntmps226
  go_wp2_with(go_at_call 229;refine HP.out.mono ?_;rintro e w' ⟨rfl,rfl⟩)
  go_ret2
  rw[HR.out]
  exact⟨rfl,rfl⟩
 |false=>
  rw[hd]at HP
  have HR:Hid (zcj s=s):=Lib.hid (by unfold zcj;rw[if_neg (by rw[hd];decide)])
  clear hd
  go_enter Tryz.func226,Tryz.ntmps226
  go_wp2_with(go_at_call 229;refine HP.out.mono ?_;rintro e w' ⟨rfl,rfl⟩)
  go_ret2
  rw[HR.out]
  exact⟨rfl,rfl⟩
theorem cutDash2_any (s:ByteArray) (w:World) (hs:s.size≤9223372036854775807):
  Calls Tryz.prog 220 #[.string s,.string ⟨#[45]⟩] w fun e w'=>e= .returned (.tuple #[.string (zcj s),.bool (zdQ s)])∧w=w':=by
 have HP:=Lib.hid (cutDash_any s w hs)
 go_enter Tryz.func220,Tryz.ntmps220
 go_wp2_with(go_at_call 226;refine HP.out.mono ?_;rintro e w' ⟨rfl,rfl⟩)
 go_ret2
 exact⟨rfl,rfl⟩
theorem parts_any (s:ByteArray) (w:World) (hs:s.size≤9223372036854775807):
  Calls Tryz.prog 209 #[.string s] w fun e w'=>e= .returned (.tuple #[.bool (zdQ s),.string (zcj s)])∧w=w':=by
 have HP:=Lib.hid (cutDash2_any s w hs)
 go_enter Tryz.func209,Tryz.ntmps209
 go_wp2_with(go_at_call 220;refine HP.out.mono ?_;rintro e w' ⟨rfl,rfl⟩)
 go_ret2
 exact⟨rfl,rfl⟩
theorem znx (n:Int) (w:World) (h0: -9223372036854775808≤n) (h1:n≤9223372036854775807):
  Calls Tryz.prog 174 #[.int .i64 n] w fun e w'=>e= .returned (.int .i64 (-(n.natAbs:Int)))∧w=w':=by
 by_cases h:0<n
 ·have HR:Hid (-(n.natAbs:Int)= -n):=Lib.hid (by omega)
  go_enter Tryz.func174,Tryz.ntmps174
  go_wp2
  go_ret
  rw[HR.out]
  exact⟨rfl,rfl⟩
 ·have HR:Hid (-(n.natAbs:Int)=n):=Lib.hid (by omega)
  go_enter Tryz.func174,Tryz.ntmps174
  go_wp2
  go_ret
  rw[HR.out]
  exact⟨rfl,rfl⟩
theorem runL_eq: ∀{l:List Int} {k:Nat},k≤l.length→(∀j,j<k→48≤l.getD j 0∧l.getD j 0≤57)→(k<l.length→ ¬(48≤l.getD k 0∧l.getD k 0≤57))→runL l=k
 |[],k,hk,_,_=>by simp at hk;subst hk;rfl
 |c::r,0,_,_,h=>by
  have:=h (by simp)
  rw[List.getD_cons_zero]at this
  rw[runL,if_neg (by rw[isD_iff];exact this)]
 |c::r,k+1,hk,ha,h=>by
  have h0:=ha 0 (by omega)
  rw[List.getD_cons_zero]at h0
  rw[runL,if_pos (isD_iff.2 h0),runL_eq (l:=r) (k:=k) (by simpa using hk) (fun j hj=>by
   have:=ha (j+1) (by omega)
   rwa [List.getD_cons_succ]at this) (fun hlt=>by
   have:=h (by simpa using hlt)
   rwa [List.getD_cons_succ]at this)]
theorem zkg (s:ByteArray) (w:World) (hs:s.size≤9223372036854775807):
  Calls Tryz.prog 210 #[.string s] w fun e w'=>e= .returned (.int .i64 (runL (strL s):Int))∧w=w':=by
 have HL:=Lib.hid (zaQ s)
 go_enter Tryz.func210,Tryz.ntmps210
 go_wp2
 go_loop [6] (fun i=> ∃k:Nat,k≤s.size∧i= .int .i64 (k:Int)∧ ∀j,j<k→48≤(strL s).getD j 0∧(strL s).getD j 0≤57) (fun i=>s.size-(intOf i).toNat)
 case atStart=>exact⟨0,by omega,rfl,fun j hj=>by omega⟩
 case round=>
  obtain⟨k,hk,rfl,hall⟩:=hrel
  have HA:=Lib.hid hall
  clear hall
  by_cases hlt:k<s.size
  ·have HG:=Lib.hid (zbp s k hlt)
   by_cases hd:48≤(strL s).getD k 0∧(strL s).getD k 0≤57
   ·obtain⟨hd1,hd2⟩:=hd
    have HD:=Lib.hid (And.intro hd1 hd2)
    rw[HG.out]at hd1 hd2
    go_wp2
    go_round
    case rel=>exact⟨k+1,by omega,by go_num,fun j hj=>by
     rcases Nat.lt_or_ge j k with h|h
     ·exact HA.out j h
     ·obtain rfl:j=k:=by omega
      exact HD.out⟩
    case measure=>simp[intOf];omega
   ·have HR:Hid (runL (strL s)=k):=Lib.hid (runL_eq (by rw[HL.out];exact hk) HA.out (fun _=>hd))
    rw[HG.out]at hd
    by_cases hd1:((s[k]'hlt).toNat:Int)<48
    ·clear hd
     go_wp2
     go_ret
     rw[HR.out]
     exact⟨rfl,rfl⟩
    ·have hd2:57<((s[k]'hlt).toNat:Int):=by omega
     clear hd
     go_wp2
     go_ret
     rw[HR.out]
     exact⟨rfl,rfl⟩
  ·obtain rfl:k=s.size:=by omega
   have HR:Hid (runL (strL s)=s.size):=Lib.hid (runL_eq (by rw[HL.out];exact Nat.le_refl _) HA.out (fun h=>by rw[HL.out]at h;omega))
   go_wp2
   go_ret
   rw[HR.out]
   exact⟨rfl,rfl⟩
theorem restL (s:ByteArray):strL (zcj s)=if zdQ s=true then(strL s).drop 1 else strL s:=by
 unfold zcj
 split
 ·rw[zax,List.take_of_length_le (by rw[zaQ];exact Nat.le_refl _)]
 ·rfl
theorem zlg (s:ByteArray):(zcj s).size≤s.size:=by
 rw[←zaQ,←zaQ,restL]
 split
 ·rw[List.length_drop];omega
 ·exact Nat.le_refl _
theorem runL_first {l:List Int} (h:0<runL l):48≤l.getD 0 0∧l.getD 0 0≤57:=isD_iff.1 (zle l 0 h)
theorem runL_none {l:List Int} (h:runL l=0): ¬(48≤l.getD 0 0∧l.getD 0 0≤57):=fun hc=>by
 cases l with
 |nil=>simp at hc
 |cons c r=>rw[List.getD_cons_zero]at hc;rw[runL,if_pos (isD_iff.2 hc)]at h;omega
theorem dash_cons {s:ByteArray} (h:zdQ s=true):strL s=45::(strL s).drop 1:=by
 unfold zdQ at h
 rw[decide_eq_true_eq]at h
 cases hl:strL s with
 |nil=>rw[hl]at h;simp at h
 |cons c r=>rw[hl]at h;rw[List.getD_cons_zero]at h;rw[h];rfl
theorem lead_dash {s:ByteArray} (h:zdQ s=true):zbY (strL s)=if 0<runL (strL (zcj s))∧(strL (zcj s)).getD 0 0≠48 then runL (strL (zcj s))+1 else 0:=by
 rw[restL,if_pos h,dash_cons h,List.drop_succ_cons,List.drop_zero,zbY,if_pos rfl]
 obtain⟨r,hr⟩: ∃r,r=(strL s).drop 1:=⟨_,rfl⟩
 rw[←hr]
 by_cases h0:0<runL r
 ·have:=runL_first h0
  by_cases h48:r.getD 0 0=48
  ·rw[if_neg (by omega),if_neg (by omega)]
  ·rw[if_pos (by omega),if_pos ⟨h0,h48⟩]
 ·have:=runL_none (l:=r) (by omega)
  rw[if_neg (by omega),if_neg (by omega)]
theorem lead_plain {s:ByteArray} (h:zdQ s=false):zbY (strL s)=if 0<runL (strL (zcj s))∧(strL (zcj s)).getD 0 0=48 then 1 else runL (strL (zcj s)):=by
 rw[show strL (zcj s)=strL s by rw[restL,h];rfl]
 unfold zdQ at h
 rw[decide_eq_false_iff_not]at h
 obtain⟨l,hl⟩: ∃l,l=strL s:=⟨_,rfl⟩
 rw[←hl]at h⊢
 cases l with
 |nil=>rfl
 |cons c r=>
  rw[List.getD_cons_zero]at h⊢
  rw[zbY,if_neg h]
  by_cases h48:c=48
  ·have:0<runL (c::r):=by rw[runL,if_pos (isD_iff.2 (by omega))];omega
   rw[if_pos h48,if_pos ⟨this,h48⟩]
  ·rw[if_neg h48,if_neg (by omega)]
theorem zkX (s:ByteArray) (w:World) (hs:s.size≤9223372036854775806):
  Calls Tryz.prog 195 #[.string s] w fun e w'=>e= .returned (.int .i64 (zbY (strL s):Int))∧Below w.heap.size w w':=by
 have hrs:=zlg s
 have HP:=Lib.hid (parts_any s w (by omega))
 have HC:=Lib.hid (zkg (zcj s) w (by omega))
 have HL:Hid (zdQ s=true→zbY (strL s)=if 0<runL (strL (zcj s))∧(strL (zcj s)).getD 0 0≠48 then runL (strL (zcj s))+1 else 0):=Lib.hid lead_dash
 have HL2:Hid (zdQ s=false→zbY (strL s)=if 0<runL (strL (zcj s))∧(strL (zcj s)).getD 0 0=48 then 1 else runL (strL (zcj s))):=Lib.hid lead_plain
 have hrl:=zmv (strL (zcj s))
 rw[zaQ]at hrl
 obtain⟨T,hT⟩: ∃T,T=zcj s:=⟨_,rfl⟩
 obtain⟨m,hm⟩: ∃m,m=zbY (strL s):=⟨_,rfl⟩
 rw[←hT]at HP HC HL HL2 hrs hrl
 rw[←hm]at HL HL2⊢
 have HG:Hid (∀h:0<T.size,(strL T).getD 0 0=((T[0]'h).toNat:Int)):=Lib.hid (fun h=>zbp T 0 h)
 obtain⟨n,hn⟩: ∃n,n=runL (strL T):=⟨_,rfl⟩
 rw[←hn]at HC HL HL2 hrl
 clear hm hT hn
 by_cases h0:0<n
 ·have hz:0<T.size:=by omega
  have hb:((n:Int)==0)=false:=by rw[beq_eq_false_iff_ne];omega
  by_cases h48:((T[0]'hz).toNat:Int)=48
  ·have hc:(((T[0]'hz).toNat:Int)==48)=true:=by rw[beq_iff_eq];exact h48
   cases hd:zdQ s with
   |true=>
    rw[hd]at HP
    have HR:Hid (m=0):=Lib.hid (by rw[HL.out hd,if_neg (by rw[HG.out hz];omega)])
    clear hd h48
    go_enter Tryz.func195,Tryz.ntmps195
    go_wp2_with(first
     |(go_at_call 209;refine HP.out.mono ?_;rintro e w' ⟨rfl,rfl⟩)
     |(go_at_call 210;refine HC.out.mono ?_;rintro e w' ⟨rfl,rfl⟩))
    go_ret
    rw[HR.out]
    exact⟨rfl,Below.refl _ _⟩
   |false=>
    rw[hd]at HP
    have HR:Hid (m=1):=Lib.hid (by rw[HL2.out hd,if_pos ⟨h0,by rw[HG.out hz];exact h48⟩])
    clear hd h48
    go_enter Tryz.func195,Tryz.ntmps195
    go_wp2_with(first
     |(go_at_call 209;refine HP.out.mono ?_;rintro e w' ⟨rfl,rfl⟩)
     |(go_at_call 210;refine HC.out.mono ?_;rintro e w' ⟨rfl,rfl⟩))
    go_ret
    rw[HR.out]
    exact⟨rfl,Below.refl _ _⟩
  ·have hc:(((T[0]'hz).toNat:Int)==48)=false:=by rw[beq_eq_false_iff_ne];exact h48
   cases hd:zdQ s with
   |true=>
    rw[hd]at HP
    have HR:Hid (m=n+1):=Lib.hid (by rw[HL.out hd,if_pos ⟨h0,by rw[HG.out hz];exact h48⟩])
    clear hd h48
    go_enter Tryz.func195,Tryz.ntmps195
    go_wp2_with(first
     |(go_at_call 209;refine HP.out.mono ?_;rintro e w' ⟨rfl,rfl⟩)
     |(go_at_call 210;refine HC.out.mono ?_;rintro e w' ⟨rfl,rfl⟩))
    go_ret
    rw[HR.out]
    exact⟨zcq (by omega),Below.refl _ _⟩
   |false=>
    rw[hd]at HP
    have HR:Hid (m=n):=Lib.hid (by rw[HL2.out hd,if_neg (by rw[HG.out hz];omega)])
    clear hd h48
    go_enter Tryz.func195,Tryz.ntmps195
    go_wp2_with(first
     |(go_at_call 209;refine HP.out.mono ?_;rintro e w' ⟨rfl,rfl⟩)
     |(go_at_call 210;refine HC.out.mono ?_;rintro e w' ⟨rfl,rfl⟩))
    go_ret
    rw[HR.out]
    exact⟨rfl,Below.refl _ _⟩
 ·obtain rfl:n=0:=by omega
  have HR:Hid (m=0):=Lib.hid (by
   cases hd:zdQ s with
   |true=>rw[HL.out hd,if_neg (by omega)]
   |false=>rw[HL2.out hd,if_neg (by omega)])
  clear h0
  go_enter Tryz.func195,Tryz.ntmps195
  go_wp2_with(first
   |(go_at_call 209;refine HP.out.mono ?_;rintro e w' ⟨rfl,rfl⟩)
   |(go_at_call 210;refine HC.out.mono ?_;rintro e w' ⟨rfl,rfl⟩))
  go_ret
  rw[HR.out]
  exact⟨rfl,Below.refl _ _⟩
theorem take_val {l:List Int} {k:Nat} (hk:k<l.length):valL (l.take (k+1))=valL (l.take k)*10+(l.getD k 0-48).toNat:=by
 rw[List.take_succ_eq_append_getElem hk,valL_snoc,List.getD_eq_getElem?_getD,List.getElem?_eq_getElem hk];rfl
def numS (s:ByteArray):Int:=if zdQ s=true then-(valL (strL (zcj s)):Int)else(valL (strL (zcj s)):Int)
def fitS (s:ByteArray):Bool:=decide (-9223372036854775808≤numS s∧numS s≤9223372036854775807)
theorem numS_num (s:ByteArray):numS s=numL (strL s):=by
 unfold numS numL
 rw[restL]
 unfold zdQ
 by_cases h:(strL s).getD 0 0=45
 ·rw[decide_eq_true h,if_pos rfl,if_pos rfl,if_pos h]
 ·rw[decide_eq_false h,if_neg (by decide),if_neg (by decide),if_neg h]
theorem tdiv_min (d:Int) (h0:0≤d) (h1:d≤9):(-9223372036854775808+d).tdiv 10= -((9223372036854775808-d)/10):=by
 rw[show-9223372036854775808+d= -(9223372036854775808-d)by omega,Int.neg_tdiv,Int.tdiv_eq_ediv_of_nonneg (by omega)]
theorem reckon_any (s:ByteArray) (w:World) (hs:s.size≤9223372036854775807) (hD:AllD (strL (zcj s))):
  Calls Tryz.prog 211 #[.string s] w fun e w'=>e= .returned (.tuple #[.int .i64 (if fitS s=true then numS s else 0),.bool (fitS s)])∧w=w':=by
 have hrs:=zlg s
 have HP:=Lib.hid (parts_any s w hs)
 have HV:Hid (numS s=if zdQ s=true then-(valL (strL (zcj s)):Int)else(valL (strL (zcj s)):Int)):=Lib.hid rfl
 have HF:Hid (fitS s=decide (-9223372036854775808≤numS s∧numS s≤9223372036854775807)):=Lib.hid rfl
 obtain⟨T,hT⟩: ∃T,T=zcj s:=⟨_,rfl⟩
 obtain⟨D,hDD⟩: ∃D,D=zdQ s:=⟨_,rfl⟩
 obtain⟨N,hN⟩: ∃N,N=numS s:=⟨_,rfl⟩
 obtain⟨F,hF⟩: ∃F,F=fitS s:=⟨_,rfl⟩
 rw[←hT]at HP HV hD hrs
 rw[←hDD]at HP HV
 rw[←hN]at HV HF⊢
 rw[←hF]at HF⊢
 have HX:Hid ((F=true→(if F=true then N else 0)=N)∧(F=false→(if F=true then N else 0)=0)):=Lib.hid ⟨fun h=>if_pos h,fun h=>if_neg (by rw[h];decide)⟩
 obtain⟨X,hX⟩: ∃X,X=if F=true then N else 0:=⟨_,rfl⟩
 rw[←hX]at HX⊢
 have HL:=Lib.hid (zaQ T)
 have hts:T.size≤9223372036854775807:=by omega
 have HD:=Lib.hid hD
 clear hT hDD hN hF hD hrs hX
 go_enter Tryz.func211,Tryz.ntmps211
 go_wp2_with(go_at_call 209;refine HP.out.mono ?_;rintro e w' ⟨rfl,rfl⟩)
 go_loop [2,15] (fun n i=> ∃k v:Nat,k≤T.size∧i= .int .i64 (k:Int)∧n= .int .i64 (-(v:Int))∧v≤9223372036854775808∧v=valL ((strL T).take k)) (fun _ i=>T.size-(intOf i).toNat)
 case atStart=>exact⟨0,0,by omega,rfl,rfl,by omega,rfl⟩
 case round=>
  obtain⟨k,v,hk,rfl,rfl,hv,hval⟩:=hrel
  have HVAL:=Lib.hid hval
  clear hval
  by_cases hlt:k<T.size
  ·have HG:=Lib.hid (zbp T k hlt)
   have hkl:k<(strL T).length:=by rw[HL.out];exact hlt
   have hdg:=HD.out.at k hkl
   have HN:=Lib.hid (take_val hkl)
   have hNle:=valL_take_le (strL T) (k+1)
   rw[HN.out,←HVAL.out]at hNle
   obtain⟨d,hd⟩: ∃d:Nat,(strL T).getD k 0=48+(d:Int):=⟨((strL T).getD k 0-48).toNat,by omega⟩
   rw[hd,show(48+(d:Int)-48).toNat=d by omega]at hNle
   have HN2:Hid (valL ((strL T).take (k+1))=v*10+d):=Lib.hid (by rw[HN.out,hd,←HVAL.out];omega)
   have hc:((T[k]'hlt).toNat:Int)=48+(d:Int):=by rw[←HG.out];exact hd
   have hd9:d≤9:=by omega
   have ht:=tdiv_min (d:Int) (by omega) (by omega)
   have HNLE:=Lib.hid hNle
   have hsub:(48+(d:Int))-48=(d:Int):=by omega
   clear hd hdg hkl HN hNle
   by_cases hover:v*10+d≤9223372036854775808
   ·have hno: ¬(-(v:Int))< -((9223372036854775808-(d:Int))/10):=by omega
    go_wp2
    go_round
    case rel=>exact⟨k+1,v*10+d,by omega,by go_num,by congr 1;omega,hover,HN2.out.symm⟩
    case measure=>simp[intOf];omega
   ·have hyes:(-(v:Int))< -((9223372036854775808-(d:Int))/10):=by omega
    have HR:Hid (F=false):=Lib.hid (by
     rw[HF.out,HV.out,decide_eq_false_iff_not]
     have:=HNLE.out
     split<;>omega)
    go_wp2
    go_ret2
    rw[HX.out.2 HR.out,HR.out]
    exact⟨rfl,rfl⟩
  ·obtain rfl:k=T.size:=by omega
   have HVV:Hid (v=valL (strL T)):=Lib.hid (by rw[HVAL.out,List.take_of_length_le (by rw[HL.out];exact Nat.le_refl _)])
   cases D with
   |true=>
    have HR:Hid (F=true∧N= -(v:Int)):=Lib.hid (by
     have h:=HV.out
     rw[if_pos rfl,←HVV.out]at h
     exact⟨by rw[HF.out,decide_eq_true_eq];omega,h⟩)
    go_wp2
    go_ret2
    rw[HX.out.1 HR.out.1,HR.out.1,HR.out.2]
    exact⟨rfl,rfl⟩
   |false=>
    have h:=HV.out
    rw[if_neg (by decide),←HVV.out]at h
    by_cases hm:v=9223372036854775808
    ·have HR:Hid (F=false):=Lib.hid (by rw[HF.out,decide_eq_false_iff_not];omega)
     have hb:((-(v:Int))== -9223372036854775808)=true:=by rw[beq_iff_eq];omega
     clear h hm
     go_wp2
     go_ret2
     rw[HX.out.2 HR.out,HR.out]
     exact⟨rfl,rfl⟩
    ·have HR:Hid (F=true∧N=(v:Int)):=Lib.hid (by exact⟨by rw[HF.out,decide_eq_true_eq];omega,h⟩)
     have hb:((-(v:Int))== -9223372036854775808)=false:=by rw[beq_eq_false_iff_ne];omega
     have hv2:(v:Int)≤9223372036854775807:=by omega
     clear h hm
     go_wp2
     go_ret2
     rw[HX.out.1 HR.out.1,HR.out.1,HR.out.2]
     exact⟨rfl,rfl⟩
def hexS (d:Int):Int:=if d<10 then 48+d else 87+d
def qOne (c:Int):List Int:=if c<32 then[92,117,48,48,hexS (c/16),hexS (c%16)]else if c=34∨c=92 then[92,c]else[c]
def qPre (l:List Int):Nat→List Int
 |0=>[34]
 |k+1=>qPre l k++qOne (l.getD k 0)
def zar (l:List Int):List Int:=qPre l l.length++[34]
theorem qOne_len (c:Int):(qOne c).length≤6:=by
 unfold qOne;split
 ·simp
 ·split<;>simp
theorem zmy (l:List Int): ∀k,(qPre l k).length≤6*k+1
 |0=>by simp[qPre]
 |k+1=>by
  have:=zmy l k
  have:=qOne_len (l.getD k 0)
  rw[qPre,List.length_append];omega
theorem info5:(Tryz.prog.info? 5).map (fun i=>(i.zero,i.size,i.bytes))=some (some (.int .u8 0),1,1):=by kernel_rfl
theorem hexS_nat: ∀i:Fin 16,(((⟨#[48,49,50,51,52,53,54,55,56,57,97,98,99,100,101,102]⟩:ByteArray)[i.val]'(i.isLt)).toNat:Int)=hexS (i.val:Int):=by decide
theorem hexS_get (d:Int) (h0:0≤d) (h1:d<16):(((⟨#[48,49,50,51,52,53,54,55,56,57,97,98,99,100,101,102]⟩:ByteArray)[d.toNat]'(by show _<16;omega)).toNat:Int)=hexS d:=by
 have:=hexS_nat ⟨d.toNat,by omega⟩
 rw[show(((⟨d.toNat,by omega⟩:Fin 16).val:Nat):Int)=d from by show((d.toNat:Nat):Int)=d;omega]at this
 exact this
theorem or_comm32 (x y:Int):bits .or .u32 x y=bits .or .u32 y x:=by
 unfold bits
 simp only[BitVec.or_comm]
theorem zdV (x:Int) (k:Nat) (w:World) (hx:0≤x) (hx2:x<4294967296) (hn:1≤k) (hn2:k≤31):
  Calls Tryz.prog 142 #[.int .u32 x,.int .u64 (k:Int)] w fun e w'=>e= .returned (.int .u32 (rotr x k))∧w=w':=by
 go_enter Tryz.func142,Tryz.ntmps142
 go_wp2
 go_ret
 refine⟨?_,rfl⟩
 rw[rotr,or_comm32]
 rfl
theorem refWords_any (w:World):
  Calls Tryz.prog 141 #[] w fun e w'=> ∃g,e= .returned (.slice (some ⟨g,0,none⟩) 64 64)∧w.heap.size≤g∧Blk w' g 124 (ints .u32 rootsL)∧w.grownBy w' none:=by
 go_enter Tryz.func141,Tryz.ntmps141
 go_wp2_with(refine wpList_buildFlat rfl _ 124 64 _ rfl .u32 rootsL Tryz.underlying166 s33 (by kernel_rfl) rfl (by decide) (by decide) (by kernel_rfl) ?_;try go_frame)
 go_ret
 exact⟨w.heap.size,rfl,Nat.le_refl _,heap_alloc_new w _,World.grownBy_alloc w _ none⟩
end Go.Proofs.YtceddodfddlncaaGreatDoor
