
import Derived.Test.YtceddodfddlncaaGreatDoorJb41
set_option maxRecDepth 100000
set_option maxHeartbeats 16000000
set_option linter.all false
namespace Go.Proofs.YtceddodfddlncaaGreatDoor
open Go Go.RowKit Go.Sort
theorem symMerge_any (blk cap N:Nat) (w0:World) (d0:Array MT) (hN:d0.size=N) (hH:HoldsK encT 6 w0 blk 0 d0) (hblk:blk<w0.heap.size) (hsz:N<1152921504606846976) (a m b n:Nat) (d:Array MT) (os:Array Obj) (ham:a<m) (hmb:m<b) (hb:b≤N) (hd:d.size=N) (h1:SortedIn (ltOf cmpM) a m d) (h2:SortedIn (ltOf cmpM) m b d):
  Calls Tryz.prog 176 #[.slice (some ⟨blk,0,none⟩) N cap,.int .i64 a,.int .i64 m,.int .i64 b,.func (.func 117) #[] #[]] (sortWorldK encT 6 w0 blk 0 n d os) fun e w'=>
   e= .returned (.tuple #[])∧ ∃n' os' d',w'=sortWorldK encT 6 w0 blk 0 n' d' os'∧PermIn a b d d'∧SortedIn (ltOf cmpM) a b d':=
 symMerge_gen Tryz.insertM Tryz.func176 Tryz.underlying111 6 Tryz.isAgg133 Tryz.sizeOf133 encT (fun _=>rfl) znp cmpM swo_cmpM 117 #[] zmW blk 0 cap N w0 d0 hN hH hblk hsz (cmp_lays _ _ _ _)
  (enters_of Tryz.func198 (by kernel_rfl) rfl) (enters_of Tryz.func176 (by kernel_rfl) rfl)
  (fun a m b n d os hd ham hmb hb=>by
   have:=rotate_any blk cap a m b d (sortWorldK encT 6 w0 blk 0 n d os) (holdsK_sortWorldK_c encT 6 w0 blk 0 d0 d n os hH hblk (by omega)) (lt_sortWorldK encT 6 w0 blk 0 n d os hblk) ham hmb (by omega) (by omega)
   rw[hd]at this
   refine this.mono ?_
   rintro e w' ⟨rfl,k',os',d',rfl,hr,hp⟩
   exact⟨rfl,n+k',os++os',d',sortWorldK_on encT 6 w0 blk 0 n k' _ _ os os' hblk hp.1,hr,hp⟩)
  (b-a+1) a m b n d os (by omega) ham hmb hb hd h1 h2
theorem sort_all (n:Nat) (hn60:n<576460752303423488):zkl n:=fun d blk cap w hn hH hblk=>by
 have HIN:=Lib.hid (fun(p e k:Nat) (dk:Array MT) (os:Array Obj) (hdk:dk.size=n) (hpe:p≤e) (he:e≤n)=>by
  have:=insert_any blk cap p e dk (sortWorldK encT 6 w blk 0 k dk os) (holdsK_sortWorldK_c encT 6 w blk 0 d dk k os hH hblk (by omega)) (lt_sortWorldK encT 6 w blk 0 k dk os hblk) hpe (by omega) (by omega)
  rw[hdk]at this
  exact this.mono (R':=fun e_ w'=>e_= .returned (.tuple #[])∧ ∃k' os' d',w'=sortWorldK encT 6 w blk 0 k' d' os'∧PermIn p e dk d'∧SortedIn (ltOf cmpM) p e d') (by
   rintro e_ w' ⟨rfl,k',os',rfl⟩
   have hs:=insertionSort_holds swo_cmpM dk p e hpe (by omega)
   exact⟨rfl,k+k',os++os',_,sortWorldK_on encT 6 w blk 0 k k' _ _ os os' hblk hs.1.1,hs.1,hs.2⟩))
 have HSY:=Lib.hid (symMerge_any blk cap n w d hn hH hblk (by omega))
 have HST:Hid (w=sortWorldK encT 6 w blk 0 0 d #[]):=Lib.hid (by unfold sortWorldK;rw[grow_empty];exact(putRowK_self encT 6 w blk 0 d hH).symm)
 have HN:=Lib.hid hn
 clear hH hn
 go_enter Tryz.func151,Tryz.ntmps151
 go_wp2
 go_loopw[7,8] (fun v u wr=> ∃(p k:Nat) (dk:Array MT) (os:Array Obj),v= .int .i64 p∧u= .int .i64 (p+20:Nat)∧p≤n∧dk.size=n∧wr=sortWorldK encT 6 w blk 0 k dk os∧Hid (PermIn 0 n d dk∧BlkTo (ltOf cmpM) 20 dk p)) (fun v _ _=>n-(intOf v).toNat)
 case atStart=>exact⟨0,0,d,#[],rfl,rfl,Nat.zero_le _,HN.out,HST.out,Lib.hid ⟨permIn_refl _ _ _,.zero⟩⟩
 case round=>
  obtain⟨p,k,dk,os,rfl,rfl,hp,hdk,rfl,HI⟩:=hrel
  by_cases hlt:p+20≤n
  ·have hz:(p:Int)+20≤(n:Int):=by omega
   have hz':((p+20:Nat):Int)≤(n:Int):=by omega
   go_wp2_with(go_at_call 175;refine(HIN.out p (p+20) k dk os hdk (by omega) hlt).mono ?_;rintro e w' ⟨rfl,k',os',d',rfl,hp1,hs1⟩)
   go_roundw
   case rel=>
    refine⟨p+20,k',d',os',by first|rfl|go_num|(congr 1;omega),by first|rfl|go_num|(congr 1;omega),hlt,by rw[hp1.1];exact hdk,rfl,Lib.hid ⟨permIn_trans _ _ _ _ _ HI.out.1 (permIn_mono _ _ _ _ _ _ (Nat.zero_le _) hlt (by omega) hp1),.step p (HI.out.2.same fun i hi=>hp1.2.1 i (.inl hi)) hs1⟩⟩
   case measure=>simp[intOf];omega
  ·have hz: ¬(p:Int)+20≤(n:Int):=by omega
   have hz': ¬((p+20:Nat):Int)≤(n:Int):=by omega
   go_wp2_with(go_at_call 175;refine(HIN.out p n k dk os hdk hp (Nat.le_refl _)).mono ?_;rintro e w' ⟨rfl,k1,os1,d1,rfl,hp1,hs1⟩)
   have hd1:d1.size=n:=by rw[hp1.1];exact hdk
   have HB:Hid (PermIn 0 n d d1∧BlkFrom (ltOf cmpM) 20 n d1 0):=Lib.hid ⟨permIn_trans _ _ _ _ _ HI.out.1 (permIn_mono _ _ _ _ _ _ (Nat.zero_le _) (Nat.le_refl _) (by omega) hp1),(HI.out.2.same fun i hi=>hp1.2.1 i (.inl hi)).join hp (blk_last hs1 (by omega))⟩
   clear HI hp1 hs1 hdk hz hz' hlt hp
   go_loopw[6,7,8] (fun v _ _ wr=> ∃(bs k:Nat) (dk:Array MT) (os:Array Obj),v= .int .i64 bs∧0<bs∧bs≤2*n+20∧dk.size=n∧wr=sortWorldK encT 6 w blk 0 k dk os∧Hid (PermIn 0 n d dk∧BlkFrom (ltOf cmpM) bs n dk 0)) (fun v _ _ _=>n-(intOf v).toNat)
   case atStart=>exact⟨20,k1,d1,os1,rfl,by omega,by omega,hd1,rfl,HB⟩
   case round=>
    obtain⟨bs,k2,d2,os2,rfl,hb0,hbn,hd2,rfl,HB2⟩:=hrel
    by_cases hbl:bs<n
    ·have hbz:(bs:Int)<(n:Int):=by omega
     have wb2:IntKind.i64.wrap (2*(bs:Int))=((2*bs:Nat):Int):=by rw[IntKind.wrap_i64];omega
     have wb2':IntKind.i64.wrap ((bs:Int)*2)=((2*bs:Nat):Int):=by rw[IntKind.wrap_i64];omega
     go_wp2_with fail
     go_loopw[7,8] (fun v u wr=> ∃(p k3:Nat) (d3:Array MT) (os3:Array Obj),v= .int .i64 p∧u= .int .i64 (p+2*bs:Nat)∧p≤n∧d3.size=n∧wr=sortWorldK encT 6 w blk 0 k3 d3 os3∧Hid (PermIn 0 n d d3∧BlkTo (ltOf cmpM) (2*bs) d3 p∧BlkFrom (ltOf cmpM) bs n d3 p)) (fun v _ _=>n-(intOf v).toNat)
     case atStart=>exact⟨0,k2,d2,os2,rfl,by first|rfl|go_num|(congr 1;omega),Nat.zero_le _,hd2,rfl,Lib.hid ⟨HB2.out.1,.zero,HB2.out.2⟩⟩
     case round=>
      obtain⟨p,k3,d3,os3,rfl,rfl,hp,hd3,rfl,HB3⟩:=hrel
      have wpb:IntKind.i64.wrap ((p:Int)+(bs:Int))=((p+bs:Nat):Int):=by rw[IntKind.wrap_i64];omega
      have wpc:IntKind.i64.wrap (((p+2*bs:Nat):Int)+((2*bs:Nat):Int))=((p+2*bs+2*bs:Nat):Int):=by rw[IntKind.wrap_i64];omega
      obtain⟨q,hq⟩: ∃q,q=p+2*bs:=⟨_,rfl⟩
      obtain⟨m,hm⟩: ∃m,m=p+bs:=⟨_,rfl⟩
      obtain⟨c,hc⟩: ∃c,c=2*bs:=⟨_,rfl⟩
      obtain⟨z,hz⟩: ∃z,z=q+c:=⟨_,rfl⟩
      rw[←hq]at wpc⊢
      rw[←hm]at wpb
      rw[←hc]at wb2 wb2'
      rw[←hc,←hz]at wpc
      have HQ:Hid (q=p+2*bs∧m=p+bs∧c=2*bs∧z=q+c):=Lib.hid ⟨hq,hm,hc,hz⟩
      by_cases hlt:q≤n
      ·have hqz:(q:Int)≤(n:Int):=by omega
       have HM:Hid (∀q' z',q'=(q:Int)→z'=(z:Int)→True):=Lib.hid fun _ _ _ _=>trivial
       have hsorted:=HB3.out.2.2.head (by omega)
       rw[Nat.min_eq_left (by omega)]at hsorted
       have hsorted2:=hsorted.2.head (by omega)
       rw[Nat.min_eq_left (by omega)]at hsorted2
       have HC:=Lib.hid (HSY.out p m q k3 d3 os3 (by omega) (by omega) hlt hd3 (by rw[hm];exact hsorted.1) (by rw[hm,hq,show p+2*bs=p+bs+bs by omega];exact hsorted2.1))
       have HR:Hid (BlkFrom (ltOf cmpM) bs n d3 q):=Lib.hid (by rw[hq,show p+2*bs=p+bs+bs by omega];exact hsorted2.2)
       clear hsorted hsorted2 hq hm hc hz
       go_wp2_with(go_at_call 176;(with_reducible refine HC.out.mono ?_);rintro e w' ⟨rfl,k4,os4,d4,rfl,hp4,hs4⟩)
       have hh:=HQ.out
       go_roundw
       case rel=>
        refine⟨q,k4,d4,os4,rfl,by rw[show q+2*bs=z by omega],hlt,by rw[hp4.1];exact hd3,rfl,Lib.hid ⟨permIn_trans _ _ _ _ _ HB3.out.1 (permIn_mono _ _ _ _ _ _ (Nat.zero_le _) hlt (by omega) hp4),?_,HR.out.same fun i hi=>hp4.2.1 i (.inr hi)⟩⟩
        rw[show q=p+2*bs by omega]at hs4 hp4⊢
        exact .step p (HB3.out.2.1.same fun i hi=>hp4.2.1 i (.inl hi)) hs4
       case measure=>simp[intOf];omega
      ·have hqz: ¬(q:Int)≤(n:Int):=by omega
       have hnext: ∀(d4:Array MT),PermIn p n d3 d4→SortedIn (ltOf cmpM) p n d4→PermIn 0 n d d4∧BlkFrom (ltOf cmpM) c n d4 0:=fun d4 hp4 hs4=>by
        rw[hc]
        exact⟨permIn_trans _ _ _ _ _ HB3.out.1 (permIn_mono _ _ _ _ _ _ (Nat.zero_le _) (Nat.le_refl _) (by omega) hp4),(HB3.out.2.1.same fun i hi=>hp4.2.1 i (.inl hi)).join hp (blk_last hs4 (by omega))⟩
       have HNX:=Lib.hid hnext
       by_cases hmn:m<n
       ·have hmz:(m:Int)<(n:Int):=by omega
        have hsorted:=HB3.out.2.2.head (by omega)
        rw[Nat.min_eq_left (by omega)]at hsorted
        have hsorted2:=hsorted.2.head (by omega)
        rw[Nat.min_eq_right (by omega)]at hsorted2
        have HC:=Lib.hid (HSY.out p m n k3 d3 os3 (by omega) hmn (Nat.le_refl _) hd3 (by rw[hm];exact hsorted.1) (by rw[hm];exact hsorted2.1))
        clear hsorted hsorted2 hq hm hc hz hnext
        go_wp2_with(go_at_call 176;(with_reducible refine HC.out.mono ?_);rintro e w' ⟨rfl,k4,os4,d4,rfl,hp4,hs4⟩)
        have hh:=HQ.out
        go_roundw
        case rel=>exact⟨c,k4,d4,os4,rfl,by omega,by omega,by rw[hp4.1];exact hd3,rfl,Lib.hid (HNX.out d4 hp4 hs4)⟩
        case measure=>simp[intOf];omega
       ·have hmz: ¬(m:Int)<(n:Int):=by omega
        have hs4:SortedIn (ltOf cmpM) p n d3:=by
         by_cases hpn:p<n
         ·have:=(HB3.out.2.2.head hpn).1
          rwa [Nat.min_eq_right (by omega)]at this
         ·intro i j h1 h2 h3;omega
        have HS4:=Lib.hid hs4
        clear hq hm hc hz hnext hs4
        go_wp2_with fail
        have hh:=HQ.out
        go_roundw
        case rel=>exact⟨c,k3,d3,os3,rfl,by omega,by omega,hd3,rfl,Lib.hid (HNX.out d3 (permIn_refl _ _ _) HS4.out)⟩
        case measure=>simp[intOf];omega
    ·have hbz: ¬(bs:Int)<(n:Int):=by omega
     go_wp2_with fail
     go_end0
     exact⟨rfl,k2,os2,d2,rfl,HB2.out.1,blk_all HB2.out.2 (by omega)⟩
theorem obj_all (ms:List (ByteArray×J)) (h:MsOk ms):OAsk ms:=obj_of ms h (sort_all _ (by have:=h.1;omega))
theorem parse_any (A:Option Addr) (xs:List Int) (n c:Nat) (W:World) (hn:xs.length=n) (hn2:n≤9223372036854775807) (hx:Bytes xs) (hl:Lies W A xs) (hm:Marks W) (ht:ErrTab W):
  Calls Tryz.prog 64 #[.slice A n c] W (zkn W (zai xs)):=parse_ofO obj_all A xs n c W hn hn2 hx hl hm ht
end Go.Proofs.YtceddodfddlncaaGreatDoor
