
import Derived.Test.YtceddodfddlncaaGreatDoorJb40
set_option maxRecDepth 100000
set_option maxHeartbeats 16000000
set_option linter.all false
namespace Go.Proofs.YtceddodfddlncaaGreatDoor
open Go Go.Sort
variable {α:Type} [Inhabited α]
inductive BlkFrom (lt:α→α→Bool) (bs n:Nat) (d:Array α):Nat→Prop
 |done (p:Nat):n≤p→BlkFrom lt bs n d p
 |more (p:Nat):p<n→SortedIn lt p (min (p+bs) n) d→BlkFrom lt bs n d (p+bs)→BlkFrom lt bs n d p
inductive BlkTo (lt:α→α→Bool) (bs:Nat) (d:Array α):Nat→Prop
 |zero:BlkTo lt bs d 0
 |step (p:Nat):BlkTo lt bs d p→SortedIn lt p (p+bs) d→BlkTo lt bs d (p+bs)
variable {lt:α→α→Bool} {bs n:Nat} {d d':Array α}
theorem zdl {a b:Nat} (h:SortedIn lt a b d) (hs: ∀i,a≤i→i<b→d'[i]! =d[i]!):SortedIn lt a b d':=fun i j hi hij hj=>by
 rw[hs i hi (by omega),hs j (by omega) hj];exact h i j hi hij hj
theorem BlkTo.same {p:Nat} (h:BlkTo lt bs d p) (hs: ∀i,i<p→d'[i]! =d[i]!):BlkTo lt bs d' p:=by
 induction h with
 |zero=>exact .zero
 |step p h1 h2 ih=>exact .step p (ih fun i hi=>hs i (by omega)) (zdl h2 fun i _ h=>hs i h)
theorem BlkFrom.same {p:Nat} (h:BlkFrom lt bs n d p) (hs: ∀i,p≤i→d'[i]! =d[i]!):BlkFrom lt bs n d' p:=by
 induction h with
 |done p h=>exact .done p h
 |more p h1 h2 _ ih=>exact .more p h1 (zdl h2 fun i h _=>hs i h) (ih fun i hi=>hs i (by omega))
theorem BlkTo.join {p:Nat} (h:BlkTo lt bs d p) (hp:p≤n) (hf:BlkFrom lt bs n d p):BlkFrom lt bs n d 0:=by
 induction h with
 |zero=>exact hf
 |step p h1 h2 ih=>
  by_cases hn:p<n
  ·exact ih (by omega) (.more p hn (by rw[Nat.min_eq_left hp];exact h2) hf)
  ·have h0:bs=0:=by omega
   subst h0
   exact ih (by omega) hf
theorem BlkFrom.head {p:Nat} (h:BlkFrom lt bs n d p) (hp:p<n):SortedIn lt p (min (p+bs) n) d∧BlkFrom lt bs n d (p+bs):=by
 cases h with
 |done _ h=>omega
 |more _ _ h2 h3=>exact⟨h2,h3⟩
theorem blk_all (h:BlkFrom lt bs n d 0) (hn:n≤bs):SortedIn lt 0 n d:=by
 by_cases h0:n=0
 ·subst h0;intro i j _ _ h;omega
 ·have:=(h.head (by omega)).1
  rwa [Nat.zero_add,Nat.min_eq_right hn]at this
theorem blk_last {p:Nat} (h:SortedIn lt p n d) (hp:n<p+bs):BlkFrom lt bs n d p:=by
 by_cases hn:p<n
 ·exact .more p hn (by rw[Nat.min_eq_right (by omega)];exact h) (.done _ (by omega))
 ·exact .done p (by omega)
end Go.Proofs.YtceddodfddlncaaGreatDoor
namespace Go.Proofs.YtceddodfddlncaaGreatDoor
open Go Go.Shelf Go.RowKit Go.Lib Go.Sort
theorem symUp_gen {P:Program} {α:Type} [Inhabited α] (L:SlLaysF0.n20 P Tryz.insertM_ren) (FG:P.funcs[176]? =some Tryz.f176) (tU:P.underlying 111=some (.int .u64)) (k:Nat) (aE: ∀w,(isAgg 133).run P w= .ok true w) (zE: ∀w,(Go.sizeOf 133).run P w= .ok k w)
  (enc:α→List Value) (hk: ∀x,(enc x).length=k) (h1: ∀x,∀v∈enc x,v.oneCell'=true) (cf:α→α→Int) (hO:SWO (ltOf cf)) (g:Nat) (cb:Array Value) (eg: ∀args w,(callFunc g args).run P w= .ok (.enter g args) w) (blk off cap N:Nat) (w0:World) (d0:Array α) (hN:d0.size=N) (hH:HoldsK enc k w0 blk off d0) (hblk:blk<w0.heap.size) (hsz:N<1152921504606846976) (hcmp:CmpLays P g cb enc k cf blk off N w0)
  (a m b n:Nat) (d:Array α) (os:Array Obj) (hma:m=a+1) (hmb:m<b) (hb:b≤N) (hd:d.size=N) (hs2:SortedIn (ltOf cf) m b d):
  Calls P 176 #[.slice (some ⟨blk,off,none⟩) N cap,.int .i64 a,.int .i64 m,.int .i64 b,.func (.func g) #[] cb] (sortWorldK enc k w0 blk off n d os) fun e w'=>e= .returned (.tuple #[])∧ ∃n' os' d',w'=sortWorldK enc k w0 blk off n' d' os'∧PermIn a b d d'∧SortedIn (ltOf cf) a b d':=by
 have mixed:=L.mixed
 have t22:P.underlying 174=some (.slice 133):=L.t22
 have a22: ∀w,(isAgg 174).run P w= .ok false w:=L.a22
 have z22: ∀w,(Go.sizeOf 174).run P w= .ok 1 w:=L.z22
 have v22: ∀w,(zeroValue 174).run P w= .ok (Value.slice none 0 0) w:=L.v22
 have t3:P.underlying 3=some (.int .i64):=L.t3
 have a3: ∀w,(isAgg 3).run P w= .ok false w:=L.a3
 have z3: ∀w,(Go.sizeOf 3).run P w= .ok 1 w:=L.z3
 have v3: ∀w,(zeroValue 3).run P w= .ok (.int .i64 0) w:=L.v3
 have u22:=run_underlying t22
 have HK:Hid (∀x,(enc x).length=k):=hk
 have H1:Hid (∀x,∀v∈enc x,v.oneCell'=true):=h1
 have HC:Hid (CmpLays P g cb enc k cf blk off N w0):=hcmp
 have HHD:Hid (∀n (d:Array α) os,d.size=N→HoldsK enc k (sortWorldK enc k w0 blk off n d os) blk off d):=fun n d os hd=>holdsK_sortWorldK_c enc k w0 blk off d0 d n os hH hblk (by omega)
 have HCL:Hid (∀n (d:Array α) os q os',grow ((sortWorldK enc k w0 blk off n d os).drewN q) os'=sortWorldK enc k w0 blk off (n+q) d (os++os')):=fun n d os q os'=>sortWorldK_grown_c enc k w0 blk off n q d os os'
 have HLD:Hid (∀n (d:Array α) os x,d.size=N→x<N→ ∀q os',Sem.run P (loadCellsFrom ⟨blk,off+x*k,none⟩ 0 k #[]) (grow ((sortWorldK enc k w0 blk off n d os).drewN q) os')= .ok (enc d[x]!).toArray (grow ((sortWorldK enc k w0 blk off n d os).drewN q) os')):=fun n d os x hd hx q os'=>by
  rw[HCL.out];exact run_loadCellsFrom_list P _ _ _ k (HK.out _) (HoldsK.cells (HHD.out _ d _ hd) HK.out (by omega))
 have HCG:Hid (∀n (d:Array α) os x y,d.size=N→ ∀q os',Calls P g (#[.agg (enc x).toArray,.agg (enc y).toArray]++cb) (grow ((sortWorldK enc k w0 blk off n d os).drewN q) os') fun e w'=>e= .returned (.int .i64 (cf x y))∧ ∃q' os'',w'=grow ((grow ((sortWorldK enc k w0 blk off n d os).drewN q) os').drewN q') os''):=fun n d os x y hd q os'=>by
  rw[HCL.out];exact HC.out _ _ d hd x y
 have HS2:Hid (SortedIn (ltOf cf) m b d):=hs2
 have HO:Hid (SWO (ltOf cf)):=hO
 clear hk h1 hcmp hH hs2 hO
 have wma:IntKind.i64.wrap ((m:Int)-(a:Int))=1:=by rw[IntKind.wrap_i64];omega
 have HMA:Hid (m=a+1):=hma
 have hma':a+1≤m:=by omega
 have az0:(0:Int)≤(a:Int):=by omega
 have azN:(a:Int)<(N:Int):=by omega
 clear hma
 go_enter FG,Tryz.ntmps176
 go_wp2
 go_loopw[10,11] (fun v u wr=> ∃(i j n':Nat) (os':Array Obj),v= .int .i64 i∧u= .int .i64 j∧m≤i∧i≤j∧j≤b∧wr=sortWorldK enc k w0 blk off n' d os'∧Hid ((∀t,m≤t→t<i→ltOf cf d[t]! d[a]! =true)∧(∀t,j≤t→t<b→ltOf cf d[t]! d[a]! =false))) (fun v u _=>(intOf u-intOf v).toNat)
 case atStart=>exact⟨m,b,n,os,rfl,rfl,Nat.le_refl _,by omega,Nat.le_refl _,rfl,fun t h1 h2=>by omega,fun t h1 h2=>by omega⟩
 case round=>
  obtain⟨i,j,n',os',rfl,rfl,hmi,hij,hjb,rfl,HI⟩:=hrel
  by_cases hlt:i<j
  ·have hltz:(i:Int)<(j:Int):=by omega
   have hhN:(i+j)/2<N:=by omega
   have hh0:(0:Int)≤((i:Int)+(j:Int))/2:=by omega
   have hhZ:((i:Int)+(j:Int))/2<(N:Int):=by omega
   have hhn:(((i:Int)+(j:Int))/2).toNat=(i+j)/2:=by omega
   obtain⟨xh,hxh⟩: ∃x,d[(i+j)/2]! =x:=⟨_,rfl⟩
   obtain⟨xa,hxa⟩: ∃x,d[a]! =x:=⟨_,rfl⟩
   have lxh:=HLD.out n' d os' ((i+j)/2) (by omega) (by omega)
   have lxa:=HLD.out n' d os' (a) (by omega) (by omega)
   rw[hxh]at lxh
   rw[hxa]at lxa
   have hcg:=HCG.out n' d os' xh xa (by omega)
   have CLS:=Lib.hid (HCL.out n' d os')
   have HXxh:=Lib.hid hxh
   have HXxa:=Lib.hid hxa
   clear hxh hxa
   generalize sortWorldK enc k w0 blk off n' d os'=wq at lxh lxa hcg CLS⊢
   by_cases hlv:cf xh xa<0
   ·go_wp2_with fail
    go_quiet_grown (first|(go_at_fn g;refine Calls.grown_of (hcg _ _)))
    go_wp2_with fail
    go_roundw
    case rel=>
     refine⟨(i+j)/2+1,j,n'+nq,os'++osq,by first|(congr 1;omega)|congr 1,rfl,by omega,by omega,hjb,CLS.out nq osq,fun t h1 h2=> ?_,HI.out.2⟩
     have e:=SWO.le HO.out HS2.out (i:=t) (j:=(i+j)/2) h1 (by omega) (by omega)
     have e2:ltOf cf d[(i+j)/2]! d[a]! =true:=by rw[HXxh.out,HXxa.out];exact decide_eq_true (by omega)
     exact SWO.less_down2 HO.out e e2
    case measure=>simp[intOf];omega
   ·go_wp2_with fail
    go_quiet_grown (first|(go_at_fn g;refine Calls.grown_of (hcg _ _)))
    go_wp2_with fail
    go_roundw
    case rel=>
     refine⟨i,(i+j)/2,n'+nq,os'++osq,rfl,by first|(congr 1;omega)|congr 1,hmi,by omega,by omega,CLS.out nq osq,HI.out.1,fun t h1 h2=> ?_⟩
     have e:=SWO.le HO.out HS2.out (i:=(i+j)/2) (j:=t) (by omega) h1 h2
     have e2:ltOf cf d[(i+j)/2]! d[a]! =false:=by rw[HXxh.out,HXxa.out];exact decide_eq_false (by omega)
     exact HO.out.ntrans _ _ _ e e2
    case measure=>simp[intOf];omega
  ·obtain rfl:i=j:=by omega
   have hltz: ¬(i:Int)<(i:Int):=by omega
   have wi:IntKind.i64.wrap ((i:Int)-1)=(i:Int)-1:=by rw[IntKind.wrap_i64];omega
   go_wp2
   go_loopw[13] (fun v wr=> ∃(x n2:Nat) (dk:Array α) (os2:Array Obj),v= .int .i64 x∧a≤x∧x+1≤i∧dk.size=N∧wr=sortWorldK enc k w0 blk off n2 dk os2∧Hid (Rot d dk a (a+1) (x+1)∧PermIn a b d dk)) (fun v _=>i-(intOf v).toNat)
   case atStart=>exact⟨a,n',d,os',rfl,Nat.le_refl _,by omega,hd,rfl,Rot.self_up d a,permIn_refl _ _ _⟩
   case round=>
    obtain⟨x,n2,dk,os2,rfl,hax,hxi,hdk,rfl,HR⟩:=hrel
    by_cases hx:x+1<i
    ·have hxz:(x:Int)<(i:Int)-1:=by omega
     have p0:(0:Int)≤(x:Int):=by omega
     have pz:(x:Int)<(N:Int):=by omega
     have q0:(0:Int)≤(x:Int)+1:=by omega
     have qz:(x:Int)+1<(N:Int):=by omega
     have e0:((x:Int)+1).toNat=x+1:=by omega
     obtain⟨xa,hxa⟩: ∃z_,dk[x]! =z_:=⟨_,rfl⟩
     obtain⟨xb,hxb⟩: ∃z_,dk[x+1]! =z_:=⟨_,rfl⟩
     have hHd:HoldsK enc k (sortWorldK enc k w0 blk off n2 dk os2).drew blk off dk:=HHD.out _ dk _ (by omega)
     generalize hwr:sortWorldK enc k w0 blk off n2 dk os2=wq at hHd⊢
     have HWR:=Lib.hid hwr
     have bnd: ∀x,x<dk.size→x*k+k≤dk.size*k:=fun x hx=>by
      have:=Nat.mul_le_mul_right k (show x+1≤dk.size from hx);rwa [Nat.add_mul,Nat.one_mul]at this
     have la:Sem.run P (loadCellsFrom ⟨blk,off+(x)*k,none⟩ 0 k #[]) wq.drew= .ok (enc xa).toArray wq.drew:=by rw[←hxa];exact run_loadCellsFrom_list P _ _ _ k (HK.out _) (HoldsK.cells hHd HK.out (by omega))
     have lb:Sem.run P (loadCellsFrom ⟨blk,off+(x+1)*k,none⟩ 0 k #[]) wq.drew= .ok (enc xb).toArray wq.drew:=by rw[←hxb];exact run_loadCellsFrom_list P _ _ _ k (HK.out _) (HoldsK.cells hHd HK.out (by omega))
     have s1:Sem.run P (storeCells ⟨blk,off+(x)*k,none⟩ (enc xb) 0) wq.drew= .ok () (wq.drew.setCells blk (off+(x)*k) (enc xb)):=stores_of_holds P hHd ((x)*k) _ (by rw[HK.out,size_flatK];exact bnd (x) (by omega)) (H1.out _)
     have s2:Sem.run P (storeCells ⟨blk,off+(x+1)*k,none⟩ (enc xa) 0) (wq.drew.setCells blk (off+(x)*k) (enc xb))= .ok () ((wq.drew.setCells blk (off+(x)*k) (enc xb)).setCells blk (off+(x+1)*k) (enc xa)):=
      stores_of_holds P (holds_setCells_c hHd ((x)*k) _ (by rw[HK.out,size_flatK];exact bnd (x) (by omega))) ((x+1)*k) _ (by rw[HK.out,size_setMany,size_flatK];exact bnd (x+1) (by omega)) (H1.out _)
     have hsA:(enc xa).length=k:=HK.out _
     have hsB:(enc xb).length=k:=HK.out _
     clear hwr hHd bnd
     obtain⟨cA,hcA⟩: ∃c,c=enc xa:=⟨_,rfl⟩
     obtain⟨cB,hcB⟩: ∃c,c=enc xb:=⟨_,rfl⟩
     rw[←hcB]at s1 lb hsB
     rw[←hcA]at la hsA
     rw[←hcA,←hcB]at s2
     have CC:Hid (cA=enc xa∧cB=enc xb):=⟨hcA,hcB⟩
     clear hcA hcB
     go_wp2_with fail
     go_big_region_o
     all_goals go_wp2
     refine⟨⟨x+1,n2+1,swp dk x (x+1),os2,by go_num,by omega,by omega,by rw[size_swp];exact hdk,?_,(show Hid _ from ?_)⟩,by simp[intOf];omega⟩
     ·rw[CC.out.1,CC.out.2,←hxa,←hxb,←HWR.out]
      exact sortWorldK_swp_c enc k w0 blk off HK.out n2 dk os2 hblk x (x+1) (by omega) (by omega)
     ·exact⟨HR.out.1.up hax (by omega),permIn_trans _ _ _ _ _ HR.out.2 (swp_permIn dk a b x (x+1) (by omega) (by omega) (by omega) (by omega) (by omega))⟩
    ·have hxz: ¬(x:Int)<(i:Int)-1:=by omega
     go_wp2
     (try simp only[Exit.inBlock,Exit.then]);refine bodyPost_ret (results_none rfl _ _ _) rfl ?_
     obtain rfl:i=x+1:=by omega
     have hm:=HMA.out
     refine⟨rfl,n2,os2,dk,rfl,HR.out.2,one_up HO.out (by omega) hjb (by rw[←hm];exact HS2.out) (by rw[←hm];exact HI.out.1) HI.out.2 HR.out.1⟩
theorem symDown_gen {P:Program} {α:Type} [Inhabited α] (L:SlLaysF0.n20 P Tryz.insertM_ren) (FG:P.funcs[176]? =some Tryz.f176) (tU:P.underlying 111=some (.int .u64)) (k:Nat) (aE: ∀w,(isAgg 133).run P w= .ok true w) (zE: ∀w,(Go.sizeOf 133).run P w= .ok k w)
  (enc:α→List Value) (hk: ∀x,(enc x).length=k) (h1: ∀x,∀v∈enc x,v.oneCell'=true) (cf:α→α→Int) (hO:SWO (ltOf cf)) (g:Nat) (cb:Array Value) (eg: ∀args w,(callFunc g args).run P w= .ok (.enter g args) w) (blk off cap N:Nat) (w0:World) (d0:Array α) (hN:d0.size=N) (hH:HoldsK enc k w0 blk off d0) (hblk:blk<w0.heap.size) (hsz:N<1152921504606846976) (hcmp:CmpLays P g cb enc k cf blk off N w0)
  (a m b n:Nat) (d:Array α) (os:Array Obj) (ham:a+1<m) (hbm:b=m+1) (hb:b≤N) (hd:d.size=N) (hs1:SortedIn (ltOf cf) a m d):
  Calls P 176 #[.slice (some ⟨blk,off,none⟩) N cap,.int .i64 a,.int .i64 m,.int .i64 b,.func (.func g) #[] cb] (sortWorldK enc k w0 blk off n d os) fun e w'=>e= .returned (.tuple #[])∧ ∃n' os' d',w'=sortWorldK enc k w0 blk off n' d' os'∧PermIn a b d d'∧SortedIn (ltOf cf) a b d':=by
 have mixed:=L.mixed
 have t22:P.underlying 174=some (.slice 133):=L.t22
 have a22: ∀w,(isAgg 174).run P w= .ok false w:=L.a22
 have z22: ∀w,(Go.sizeOf 174).run P w= .ok 1 w:=L.z22
 have v22: ∀w,(zeroValue 174).run P w= .ok (Value.slice none 0 0) w:=L.v22
 have t3:P.underlying 3=some (.int .i64):=L.t3
 have a3: ∀w,(isAgg 3).run P w= .ok false w:=L.a3
 have z3: ∀w,(Go.sizeOf 3).run P w= .ok 1 w:=L.z3
 have v3: ∀w,(zeroValue 3).run P w= .ok (.int .i64 0) w:=L.v3
 have u22:=run_underlying t22
 have HK:Hid (∀x,(enc x).length=k):=hk
 have H1:Hid (∀x,∀v∈enc x,v.oneCell'=true):=h1
 have HC:Hid (CmpLays P g cb enc k cf blk off N w0):=hcmp
 have HHD:Hid (∀n (d:Array α) os,d.size=N→HoldsK enc k (sortWorldK enc k w0 blk off n d os) blk off d):=fun n d os hd=>holdsK_sortWorldK_c enc k w0 blk off d0 d n os hH hblk (by omega)
 have HCL:Hid (∀n (d:Array α) os q os',grow ((sortWorldK enc k w0 blk off n d os).drewN q) os'=sortWorldK enc k w0 blk off (n+q) d (os++os')):=fun n d os q os'=>sortWorldK_grown_c enc k w0 blk off n q d os os'
 have HLD:Hid (∀n (d:Array α) os x,d.size=N→x<N→ ∀q os',Sem.run P (loadCellsFrom ⟨blk,off+x*k,none⟩ 0 k #[]) (grow ((sortWorldK enc k w0 blk off n d os).drewN q) os')= .ok (enc d[x]!).toArray (grow ((sortWorldK enc k w0 blk off n d os).drewN q) os')):=fun n d os x hd hx q os'=>by
  rw[HCL.out];exact run_loadCellsFrom_list P _ _ _ k (HK.out _) (HoldsK.cells (HHD.out _ d _ hd) HK.out (by omega))
 have HCG:Hid (∀n (d:Array α) os x y,d.size=N→ ∀q os',Calls P g (#[.agg (enc x).toArray,.agg (enc y).toArray]++cb) (grow ((sortWorldK enc k w0 blk off n d os).drewN q) os') fun e w'=>e= .returned (.int .i64 (cf x y))∧ ∃q' os'',w'=grow ((grow ((sortWorldK enc k w0 blk off n d os).drewN q) os').drewN q') os''):=fun n d os x y hd q os'=>by
  rw[HCL.out];exact HC.out _ _ d hd x y
 have HS1:Hid (SortedIn (ltOf cf) a m d):=hs1
 have HO:Hid (SWO (ltOf cf)):=hO
 clear hk h1 hcmp hH hs1 hO
 have wma:IntKind.i64.wrap ((m:Int)-(a:Int))=(m:Int)-(a:Int):=by rw[IntKind.wrap_i64];omega
 have wne:(((m:Int)-(a:Int))==1)=false:=by rw[beq_eq_false_iff_ne];omega
 have wne': ¬((m:Int)-(a:Int)=1):=by omega
 have wbm:IntKind.i64.wrap ((b:Int)-(m:Int))=1:=by rw[IntKind.wrap_i64];omega
 have HBM:Hid (b=m+1):=hbm
 have hbm':m<b:=by omega
 have az0:(0:Int)≤(m:Int):=by omega
 have azN:(m:Int)<(N:Int):=by omega
 clear hbm
 go_enter FG,Tryz.ntmps176
 go_wp2
 go_loopw[14,15] (fun v u wr=> ∃(i j n':Nat) (os':Array Obj),v= .int .i64 i∧u= .int .i64 j∧a≤i∧i≤j∧j≤m∧wr=sortWorldK enc k w0 blk off n' d os'∧Hid ((∀t,a≤t→t<i→ltOf cf d[m]! d[t]! =false)∧(∀t,j≤t→t<m→ltOf cf d[m]! d[t]! =true))) (fun v u _=>(intOf u-intOf v).toNat)
 case atStart=>exact⟨a,m,n,os,rfl,rfl,Nat.le_refl _,by omega,Nat.le_refl _,rfl,fun t h1 h2=>by omega,fun t h1 h2=>by omega⟩
 case round=>
  obtain⟨i,j,n',os',rfl,rfl,hai,hij,hjm,rfl,HI⟩:=hrel
  by_cases hlt:i<j
  ·have hltz:(i:Int)<(j:Int):=by omega
   have hhN:(i+j)/2<N:=by omega
   have hh0:(0:Int)≤((i:Int)+(j:Int))/2:=by omega
   have hhZ:((i:Int)+(j:Int))/2<(N:Int):=by omega
   have hhn:(((i:Int)+(j:Int))/2).toNat=(i+j)/2:=by omega
   obtain⟨xm,hxm⟩: ∃x,d[m]! =x:=⟨_,rfl⟩
   obtain⟨xh,hxh⟩: ∃x,d[(i+j)/2]! =x:=⟨_,rfl⟩
   have lxm:=HLD.out n' d os' (m) (by omega) (by omega)
   have lxh:=HLD.out n' d os' ((i+j)/2) (by omega) (by omega)
   rw[hxm]at lxm
   rw[hxh]at lxh
   have hcg:=HCG.out n' d os' xm xh (by omega)
   have CLS:=Lib.hid (HCL.out n' d os')
   have HXxm:=Lib.hid hxm
   have HXxh:=Lib.hid hxh
   clear hxm hxh
   generalize sortWorldK enc k w0 blk off n' d os'=wq at lxm lxh hcg CLS⊢
   by_cases hlv:cf xm xh<0
   ·have hdv:decide (cf xm xh<0)=true:=decide_eq_true hlv
    go_wp2_with fail
    go_quiet_grown (first|(go_at_fn g;refine Calls.grown_of (hcg _ _)))
    go_wp2_with fail
    go_roundw
    case rel=>
     refine⟨i,(i+j)/2,n'+nq,os'++osq,rfl,by first|(congr 1;omega)|congr 1,hai,by omega,by omega,CLS.out nq osq,HI.out.1,fun t h1 h2=> ?_⟩
     have e:=SWO.le HO.out HS1.out (i:=(i+j)/2) (j:=t) (by omega) h1 h2
     have e2:ltOf cf d[m]! d[(i+j)/2]! =true:=by rw[HXxh.out,HXxm.out];exact decide_eq_true (by omega)
     exact SWO.less_up HO.out e e2
    case measure=>simp[intOf];omega
   ·have hdv:decide (cf xm xh<0)=false:=decide_eq_false hlv
    go_wp2_with fail
    go_quiet_grown (first|(go_at_fn g;refine Calls.grown_of (hcg _ _)))
    go_wp2_with fail
    go_roundw
    case rel=>
     refine⟨(i+j)/2+1,j,n'+nq,os'++osq,by first|(congr 1;omega)|congr 1,rfl,by omega,by omega,hjm,CLS.out nq osq,fun t h1 h2=> ?_,HI.out.2⟩
     have e:=SWO.le HO.out HS1.out (i:=t) (j:=(i+j)/2) h1 (by omega) (by omega)
     have e2:ltOf cf d[m]! d[(i+j)/2]! =false:=by rw[HXxh.out,HXxm.out];exact decide_eq_false (by omega)
     exact HO.out.ntrans _ _ _ e2 e
    case measure=>simp[intOf];omega
  ·obtain rfl:i=j:=by omega
   have hltz: ¬(i:Int)<(i:Int):=by omega
   go_wp2
   go_loopw[17] (fun v wr=> ∃(x n2:Nat) (dk:Array α) (os2:Array Obj),v= .int .i64 x∧i≤x∧x≤m∧dk.size=N∧wr=sortWorldK enc k w0 blk off n2 dk os2∧Hid (Rot d dk x m (m+1)∧PermIn a b d dk)) (fun v _=>(intOf v).toNat)
   case atStart=>exact⟨m,n',d,os',rfl,by omega,Nat.le_refl _,hd,rfl,Rot.self_down d m,permIn_refl _ _ _⟩
   case round=>
    obtain⟨x,n2,dk,os2,rfl,hix,hxm,hdk,rfl,HR⟩:=hrel
    by_cases hx:i<x
    ·obtain⟨y,rfl⟩: ∃y,x=y+1:=⟨x-1,by omega⟩
     have hxz:(i:Int)<(y:Int)+1:=by omega
     have hwp:IntKind.i64.wrap (y:Int)=(y:Int):=by rw[IntKind.wrap_i64];omega
     have p0:(0:Int)≤(y:Int):=by omega
     have pz:(y:Int)<(N:Int):=by omega
     have q0:(0:Int)≤(y:Int)+1:=by omega
     have qz:(y:Int)+1<(N:Int):=by omega
     have e0:((y:Int)+1).toNat=y+1:=by omega
     obtain⟨xa,hxa⟩: ∃z_,dk[y+1]! =z_:=⟨_,rfl⟩
     obtain⟨xb,hxb⟩: ∃z_,dk[y]! =z_:=⟨_,rfl⟩
     have hHd:HoldsK enc k (sortWorldK enc k w0 blk off n2 dk os2).drew blk off dk:=HHD.out _ dk _ (by omega)
     generalize hwr:sortWorldK enc k w0 blk off n2 dk os2=wq at hHd⊢
     have HWR:=Lib.hid hwr
     have bnd: ∀x,x<dk.size→x*k+k≤dk.size*k:=fun x hx=>by
      have:=Nat.mul_le_mul_right k (show x+1≤dk.size from hx);rwa [Nat.add_mul,Nat.one_mul]at this
     have la:Sem.run P (loadCellsFrom ⟨blk,off+(y+1)*k,none⟩ 0 k #[]) wq.drew= .ok (enc xa).toArray wq.drew:=by rw[←hxa];exact run_loadCellsFrom_list P _ _ _ k (HK.out _) (HoldsK.cells hHd HK.out (by omega))
     have lb:Sem.run P (loadCellsFrom ⟨blk,off+(y)*k,none⟩ 0 k #[]) wq.drew= .ok (enc xb).toArray wq.drew:=by rw[←hxb];exact run_loadCellsFrom_list P _ _ _ k (HK.out _) (HoldsK.cells hHd HK.out (by omega))
     have s1:Sem.run P (storeCells ⟨blk,off+(y+1)*k,none⟩ (enc xb) 0) wq.drew= .ok () (wq.drew.setCells blk (off+(y+1)*k) (enc xb)):=stores_of_holds P hHd ((y+1)*k) _ (by rw[HK.out,size_flatK];exact bnd (y+1) (by omega)) (H1.out _)
     have s2:Sem.run P (storeCells ⟨blk,off+(y)*k,none⟩ (enc xa) 0) (wq.drew.setCells blk (off+(y+1)*k) (enc xb))= .ok () ((wq.drew.setCells blk (off+(y+1)*k) (enc xb)).setCells blk (off+(y)*k) (enc xa)):=
      stores_of_holds P (holds_setCells_c hHd ((y+1)*k) _ (by rw[HK.out,size_flatK];exact bnd (y+1) (by omega))) ((y)*k) _ (by rw[HK.out,size_setMany,size_flatK];exact bnd (y) (by omega)) (H1.out _)
     have hsA:(enc xa).length=k:=HK.out _
     have hsB:(enc xb).length=k:=HK.out _
     clear hwr hHd bnd
     obtain⟨cA,hcA⟩: ∃c,c=enc xa:=⟨_,rfl⟩
     obtain⟨cB,hcB⟩: ∃c,c=enc xb:=⟨_,rfl⟩
     rw[←hcB]at s1 lb hsB
     rw[←hcA]at la hsA
     rw[←hcA,←hcB]at s2
     have CC:Hid (cA=enc xa∧cB=enc xb):=⟨hcA,hcB⟩
     clear hcA hcB
     go_wp2_with fail
     go_big_region_o
     all_goals go_wp2
     refine⟨⟨y,n2+1,swp dk (y+1) y,os2,by first|rfl|go_num|(congr 1;omega),by omega,by omega,by rw[size_swp];exact hdk,?_,(show Hid _ from ?_)⟩,by simp[intOf]⟩
     ·rw[CC.out.1,CC.out.2,←hxa,←hxb,←HWR.out]
      exact sortWorldK_swp_c enc k w0 blk off HK.out n2 dk os2 hblk (y+1) y (by omega) (by omega)
     ·have:=HR.out.1.down (by omega) hxm (by omega)
      rw[Nat.add_sub_cancel]at this
      exact⟨this,permIn_trans _ _ _ _ _ HR.out.2 (swp_permIn dk a b (y+1) y (by omega) (by omega) (by omega) (by omega) (by omega))⟩
    ·have hxz: ¬(i:Int)<(x:Int):=by omega
     go_wp2
     (try simp only[Exit.inBlock,Exit.then]);refine bodyPost_ret (results_none rfl _ _ _) rfl ?_
     obtain rfl:i=x:=by omega
     have hm:=HBM.out
     refine⟨rfl,n2,os2,dk,rfl,HR.out.2,by rw[hm];exact one_down HO.out hai hjm HS1.out HI.out.1 HI.out.2 HR.out.1⟩
theorem symMerge_gen {P:Program} {α:Type} [Inhabited α] (L:SlLaysF0.n20 P Tryz.insertM_ren) (FG:P.funcs[176]? =some Tryz.f176) (tU:P.underlying 111=some (.int .u64)) (k:Nat) (aE: ∀w,(isAgg 133).run P w= .ok true w) (zE: ∀w,(Go.sizeOf 133).run P w= .ok k w)
  (enc:α→List Value) (hk: ∀x,(enc x).length=k) (h1: ∀x,∀v∈enc x,v.oneCell'=true) (cf:α→α→Int) (hO:SWO (ltOf cf)) (g:Nat) (cb:Array Value) (eg: ∀args w,(callFunc g args).run P w= .ok (.enter g args) w) (blk off cap N:Nat) (w0:World) (d0:Array α) (hN:d0.size=N) (hH:HoldsK enc k w0 blk off d0) (hblk:blk<w0.heap.size) (hsz:N<1152921504606846976) (hcmp:CmpLays P g cb enc k cf blk off N w0) (e114: ∀args w,(callFunc 198 args).run P w= .ok (.enter 198 args) w) (e98: ∀args w,(callFunc 176 args).run P w= .ok (.enter 176 args) w)
  (hrot: ∀(a m b n:Nat) (d:Array α) (os:Array Obj),d.size=N→a<m→m<b→b≤N→Calls P 198 #[.slice (some ⟨blk,off,none⟩) N cap,.int .i64 a,.int .i64 m,.int .i64 b,.func (.func g) #[] cb] (sortWorldK enc k w0 blk off n d os) fun e w'=>e= .returned (.tuple #[])∧ ∃n' os' d',w'=sortWorldK enc k w0 blk off n' d' os'∧Rot d d' a m b∧PermIn a b d d'):
  ∀(f a m b n:Nat) (d:Array α) (os:Array Obj),b-a<f→a<m→m<b→b≤N→d.size=N→SortedIn (ltOf cf) a m d→SortedIn (ltOf cf) m b d→
  Calls P 176 #[.slice (some ⟨blk,off,none⟩) N cap,.int .i64 a,.int .i64 m,.int .i64 b,.func (.func g) #[] cb] (sortWorldK enc k w0 blk off n d os) fun e w'=>e= .returned (.tuple #[])∧ ∃n' os' d',w'=sortWorldK enc k w0 blk off n' d' os'∧PermIn a b d d'∧SortedIn (ltOf cf) a b d':=by
 intro f
 induction f with
 |zero=>intro a m b n d os h;exact absurd h (Nat.not_lt_zero _)
 |succ f ih=>
  intro a m b n d os hf ham hmb hb hd hs1 hs2
  by_cases c1:m=a+1
  ·exact symUp_gen L FG tU k aE zE enc hk h1 cf hO g cb eg blk off cap N w0 d0 hN hH hblk hsz hcmp a m b n d os c1 hmb hb hd hs2
  by_cases c2:b=m+1
  ·exact symDown_gen L FG tU k aE zE enc hk h1 cf hO g cb eg blk off cap N w0 d0 hN hH hblk hsz hcmp a m b n d os (by omega) c2 hb hd hs1
  have mixed:=L.mixed
  have t22:P.underlying 174=some (.slice 133):=L.t22
  have a22: ∀w,(isAgg 174).run P w= .ok false w:=L.a22
  have z22: ∀w,(Go.sizeOf 174).run P w= .ok 1 w:=L.z22
  have v22: ∀w,(zeroValue 174).run P w= .ok (Value.slice none 0 0) w:=L.v22
  have t3:P.underlying 3=some (.int .i64):=L.t3
  have a3: ∀w,(isAgg 3).run P w= .ok false w:=L.a3
  have z3: ∀w,(Go.sizeOf 3).run P w= .ok 1 w:=L.z3
  have v3: ∀w,(zeroValue 3).run P w= .ok (.int .i64 0) w:=L.v3
  have u22:=run_underlying t22
  have HK:Hid (∀x,(enc x).length=k):=hk
  have H1:Hid (∀x,∀v∈enc x,v.oneCell'=true):=h1
  have HC:Hid (CmpLays P g cb enc k cf blk off N w0):=hcmp
  have HHD:Hid (∀n (d:Array α) os,d.size=N→HoldsK enc k (sortWorldK enc k w0 blk off n d os) blk off d):=fun n d os hd=>holdsK_sortWorldK_c enc k w0 blk off d0 d n os hH hblk (by omega)
  have HCL:Hid (∀n (d:Array α) os q os',grow ((sortWorldK enc k w0 blk off n d os).drewN q) os'=sortWorldK enc k w0 blk off (n+q) d (os++os')):=fun n d os q os'=>sortWorldK_grown_c enc k w0 blk off n q d os os'
  have HLD:Hid (∀n (d:Array α) os x,d.size=N→x<N→ ∀q os',Sem.run P (loadCellsFrom ⟨blk,off+x*k,none⟩ 0 k #[]) (grow ((sortWorldK enc k w0 blk off n d os).drewN q) os')= .ok (enc d[x]!).toArray (grow ((sortWorldK enc k w0 blk off n d os).drewN q) os')):=fun n d os x hd hx q os'=>by
   rw[HCL.out];exact run_loadCellsFrom_list P _ _ _ k (HK.out _) (HoldsK.cells (HHD.out _ d _ hd) HK.out (by omega))
  have HCG:Hid (∀n (d:Array α) os x y,d.size=N→ ∀q os',Calls P g (#[.agg (enc x).toArray,.agg (enc y).toArray]++cb) (grow ((sortWorldK enc k w0 blk off n d os).drewN q) os') fun e w'=>e= .returned (.int .i64 (cf x y))∧ ∃q' os'',w'=grow ((grow ((sortWorldK enc k w0 blk off n d os).drewN q) os').drewN q') os''):=fun n d os x y hd q os'=>by
   rw[HCL.out];exact HC.out _ _ d hd x y
  have HS1:Hid (SortedIn (ltOf cf) a m d):=hs1
  have HS2:Hid (SortedIn (ltOf cf) m b d):=hs2
  have HO:Hid (SWO (ltOf cf)):=hO
  have HROT:=Lib.hid hrot
  have IH:=Lib.hid ih
  clear hk h1 hcmp hH hs1 hs2 hO hrot ih
  have wma:IntKind.i64.wrap ((m:Int)-(a:Int))=(m:Int)-(a:Int):=by rw[IntKind.wrap_i64];omega
  have wne:(((m:Int)-(a:Int))==1)=false:=by rw[beq_eq_false_iff_ne];omega
  have wne': ¬((m:Int)-(a:Int)=1):=by omega
  have wbm:IntKind.i64.wrap ((b:Int)-(m:Int))=(b:Int)-(m:Int):=by rw[IntKind.wrap_i64];omega
  have wnf:(((b:Int)-(m:Int))==1)=false:=by rw[beq_eq_false_iff_ne];omega
  have wnf': ¬((b:Int)-(m:Int)=1):=by omega
  obtain⟨mid,hmid⟩: ∃x,x=(a+b)/2:=⟨_,rfl⟩
  have hmz:((a:Int)+(b:Int))/2=(mid:Int):=by omega
  have HMID:Hid (mid=(a+b)/2):=hmid
  have hmN:mid<N:=by omega
  obtain⟨s0,r0,h0,hst⟩: ∃s0 r0,((mid<m∧s0=mid+m-b∧r0=mid)∨(m≤mid∧s0=a∧r0=m))∧a≤s0:=by
   by_cases h:mid<m
   ·exact⟨_,_,.inl ⟨h,rfl,rfl⟩,by omega⟩
   ·exact⟨_,_,.inr ⟨by omega,rfl,rfl⟩,Nat.le_refl _⟩
  have HH0:Hid ((mid<m∧s0=mid+m-b∧r0=mid)∨(m≤mid∧s0=a∧r0=m)):=h0
  have hsr:s0≤r0:=by omega
  have wmm:IntKind.i64.wrap ((mid:Int)+(m:Int))=(mid:Int)+(m:Int):=by rw[IntKind.wrap_i64];omega
  have hrm:r0≤m:=by omega
  have hrd:r0≤mid:=by omega
  clear hmid
  go_enter FG,Tryz.ntmps176
  go_upto_if 140 with fail
  go_cut[20,21]from 25 (fun v20 v21 wx=>v20= .int .i64 (s0:Int)∧v21= .int .i64 (r0:Int)∧wx=sortWorldK enc k w0 blk off n d os)
  case first=>
   rcases HH0.out with⟨x1,x2,x3⟩|⟨x1,x2,x3⟩
   ·have hz:(mid:Int)<(m:Int):=by omega
    have wsb:IntKind.i64.wrap ((mid:Int)+(m:Int)-(b:Int))=(s0:Int):=by rw[IntKind.wrap_i64];omega
    have hrz:r0=mid:=x3
    clear h0 x1 x2 x3
    go_wp2_with fail
    go_meet
    case rel=>exact⟨rfl,by rw[hrz],rfl⟩
   ·have hz: ¬(mid:Int)<(m:Int):=by omega
    have hrz:s0=a∧r0=m:=⟨x2,x3⟩
    clear h0 x1 x2 x3
    go_wp2_with fail
    go_meet
    case rel=>exact⟨by rw[hrz.1],by rw[hrz.2],rfl⟩
  case rest=>as_aux_lemma=>
   obtain⟨rfl,rfl,rfl⟩:=hcut
   clear h0
   have wp1:IntKind.i64.wrap ((mid:Int)+(m:Int)-1)=(mid:Int)+(m:Int)-1:=by rw[IntKind.wrap_i64];omega
   go_wp2_with fail
   go_loopw[20,21] (fun v u wr=> ∃(s r n':Nat) (os':Array Obj),v= .int .i64 s∧u= .int .i64 r∧s0≤s∧s≤r∧r≤r0∧wr=sortWorldK enc k w0 blk off n' d os'∧Hid ((∀t,s0≤t→t<s→ltOf cf d[mid+m-1-t]! d[t]! =false)∧(∀t,r≤t→t<r0→ltOf cf d[mid+m-1-t]! d[t]! =true))) (fun v u _=>(intOf u-intOf v).toNat)
   case atStart=>exact⟨s0,r0,n,os,rfl,rfl,Nat.le_refl _,hsr,Nat.le_refl _,rfl,fun t h1 h2=>by omega,fun t h1 h2=>by omega⟩
   case round=>
    obtain⟨s,r,n',os',rfl,rfl,hs0,hsr',hr0,rfl,HI⟩:=hrel
    by_cases hlt:s<r
    ·have hltz:(s:Int)<(r:Int):=by omega
     have hhN:(s+r)/2<N:=by omega
     have hh0:(0:Int)≤((s:Int)+(r:Int))/2:=by omega
     have hhZ:((s:Int)+(r:Int))/2<(N:Int):=by omega
     have hhn:(((s:Int)+(r:Int))/2).toNat=(s+r)/2:=by omega
     obtain⟨pc,hpc⟩: ∃x,x=mid+m-1-(s+r)/2:=⟨_,rfl⟩
     have HPC:Hid (pc=mid+m-1-(s+r)/2):=hpc
     have hpN:pc<N:=by have:=HMID.out;have:=HH0.out;omega
     have pz0:(0:Int)≤(pc:Int):=by omega
     have pzN:(pc:Int)<(N:Int):=by omega
     have wpc:IntKind.i64.wrap ((mid:Int)+(m:Int)-1-((s:Int)+(r:Int))/2)=(pc:Int):=by rw[IntKind.wrap_i64];omega
     clear hpc
     obtain⟨xp,hxp⟩: ∃x,d[pc]! =x:=⟨_,rfl⟩
     obtain⟨xh,hxh⟩: ∃x,d[(s+r)/2]! =x:=⟨_,rfl⟩
     have lxp:=HLD.out n' d os' (pc) (by omega) (by omega)
     have lxh:=HLD.out n' d os' ((s+r)/2) (by omega) (by omega)
     rw[hxp]at lxp
     rw[hxh]at lxh
     have hcg:=HCG.out n' d os' xp xh (by omega)
     have CLS:=Lib.hid (HCL.out n' d os')
     have HXxp:=Lib.hid hxp
     have HXxh:=Lib.hid hxh
     clear hxp hxh
     generalize sortWorldK enc k w0 blk off n' d os'=wq at lxp lxh hcg CLS⊢
     by_cases hlv:cf xp xh<0
     ·as_aux_lemma=>
       have hdv:decide (cf xp xh<0)=true:=decide_eq_true hlv
       go_wp2_with fail
       go_quiet_grown (first|(go_at_fn g;refine Calls.grown_of (hcg _ _)))
       go_wp2_with fail
       go_roundw
       case rel=>
        refine⟨s,(s+r)/2,n'+nq,os'++osq,rfl,by first|(congr 1;omega)|congr 1,hs0,by omega,by omega,CLS.out nq osq,HI.out.1,fun t h1 h2=> ?_⟩
        have e2:ltOf cf d[mid+m-1-(s+r)/2]! d[(s+r)/2]! =true:=by rw[←HPC.out,HXxp.out,HXxh.out];exact decide_eq_true (by omega)
        have hm:=HMID.out
        have h0:=HH0.out
        exact sym_mono_hi HO.out HS1.out HS2.out (h:=(s+r)/2) (by omega) h1 (by omega) (by omega) (by omega) e2
       case measure=>simp[intOf];omega
     ·as_aux_lemma=>
       have hdv:decide (cf xp xh<0)=false:=decide_eq_false hlv
       go_wp2_with fail
       go_quiet_grown (first|(go_at_fn g;refine Calls.grown_of (hcg _ _)))
       go_wp2_with fail
       go_roundw
       case rel=>
        refine⟨(s+r)/2+1,r,n'+nq,os'++osq,by first|(congr 1;omega)|congr 1,rfl,by omega,by omega,hr0,CLS.out nq osq,fun t h1 h2=> ?_,HI.out.2⟩
        have e2:ltOf cf d[mid+m-1-(s+r)/2]! d[(s+r)/2]! =false:=by rw[←HPC.out,HXxp.out,HXxh.out];exact decide_eq_false (by omega)
        have hm:=HMID.out
        have h0:=HH0.out
        exact sym_mono_lo HO.out HS1.out HS2.out (h:=(s+r)/2) (by omega) (by omega) (by omega) (by omega) (by omega) e2
       case measure=>simp[intOf];omega
    ·obtain rfl:s=r:=by omega
     have hltz: ¬(s:Int)<(s:Int):=by omega
     have hfound:=sym_found HO.out (s:=s) ham hmb HMID.out HH0.out hs0 hr0 HI.out.1 HI.out.2
     obtain⟨e,he⟩: ∃x,x=mid+m-s:=⟨_,rfl⟩
     rw[←he]at hfound
     obtain⟨f1,f2,f3,f4,f5,f6,f7,f8⟩:=hfound
     have HF:Hid ((a<s→e<b→ltOf cf d[e]! d[s-1]! =false)∧(s<m→m<e→ltOf cf d[e-1]! d[s]! =true)):=⟨f7,f8⟩
     have we:IntKind.i64.wrap ((mid:Int)+(m:Int)-(s:Int))=(e:Int):=by rw[IntKind.wrap_i64];omega
     have hse:s+e=mid+m:=by omega
     clear f7 f8 he hs0 hr0 hsr' hlt
     go_upto_region 39 with fail
     go_cut[185]from 25 (fun v wx=>v= .bool (decide (s<m)&&decide (m<e))∧wx=sortWorldK enc k w0 blk off n' d os')
     case first=>
      by_cases y1:s<m
      ·have z1:(s:Int)<(m:Int):=by omega
       by_cases y2:m<e
       ·have z2:(m:Int)<(e:Int):=by omega
        go_wp2_with fail
        go_meet
        case rel=>exact⟨by rw[decide_eq_true y1,decide_eq_true y2];rfl,rfl⟩
       ·have z2: ¬(m:Int)<(e:Int):=by omega
        go_wp2_with fail
        go_meet
        case rel=>exact⟨by rw[decide_eq_true y1,decide_eq_false y2];rfl,rfl⟩
      ·have z1: ¬(s:Int)<(m:Int):=by omega
       go_wp2_with fail
       go_meet
       case rel=>exact⟨by rw[decide_eq_false y1];rfl,rfl⟩
     case rest=>as_aux_lemma=>
      obtain⟨rfl,rfl⟩:=hcut
      go_upto_if 185 with fail
      go_cut[]from 25 (fun wx=> ∃(n2:Nat) (d2:Array α) (os2:Array Obj),wx=sortWorldK enc k w0 blk off n2 d2 os2∧d2.size=N∧Hid (Rot d d2 s m e∧PermIn a b d d2))
      case first=>
       by_cases y:s<m∧m<e
       ·have hy:(decide (s<m)&&decide (m<e))=true:=by rw[decide_eq_true y.1,decide_eq_true y.2];rfl
        obtain⟨y1,y2⟩:=y
        rw[hy]
        go_wp2_with(go_at_fn 198;(with_reducible refine(HROT.out s m e n' d os' hd y1 y2 (by omega)).mono ?_);rintro e_ w' ⟨rfl,n2,os2,d2,rfl,hr,hp⟩)
        go_meet
        case rel=>exact⟨n2,d2,os2,rfl,by rw[hp.1];exact hd,hr,permIn_mono _ _ _ _ _ _ f1 f5 (by omega) hp⟩
       ·have hy:(decide (s<m)&&decide (m<e))=false:=by
         by_cases y1:s<m
         ·rw[decide_eq_false (fun y2=>y ⟨y1,y2⟩),Bool.and_false]
         ·rw[decide_eq_false y1,Bool.false_and]
        rw[hy]
        go_wp2_with fail
        go_meet
        case rel=>exact⟨n',d,os',rfl,hd,Rot.none d f2 f4 (by omega),permIn_refl _ _ _⟩
      case rest=>as_aux_lemma=>
       obtain⟨n2,d2,os2,rfl,hd2,HRP⟩:=hcut
       have HPT:=Lib.hid (sym_part HO.out f1 f2 f4 f5 hse HS1.out HS2.out HF.out.1 HF.out.2 HRP.out.1)
       have ham':a<mid:=by have:=HMID.out;omega
       have hmb':mid<b:=by have:=HMID.out;omega
       go_upto_region 41 with fail
       go_cut[199]from 25 (fun v wx=>v= .bool (decide (a<s)&&decide (s<mid))∧wx=sortWorldK enc k w0 blk off n2 d2 os2)
       case first=>
        by_cases y1:a<s
        ·have z1:(a:Int)<(s:Int):=by omega
         by_cases y2:s<mid
         ·have z2:(s:Int)<(mid:Int):=by omega
          go_wp2_with fail
          go_meet
          case rel=>exact⟨by rw[decide_eq_true y1,decide_eq_true y2];rfl,rfl⟩
         ·have z2: ¬(s:Int)<(mid:Int):=by omega
          go_wp2_with fail
          go_meet
          case rel=>exact⟨by rw[decide_eq_true y1,decide_eq_false y2];rfl,rfl⟩
        ·have z1: ¬(a:Int)<(s:Int):=by omega
         go_wp2_with fail
         go_meet
         case rel=>exact⟨by rw[decide_eq_false y1];rfl,rfl⟩
       case rest=>as_aux_lemma=>
        obtain⟨rfl,rfl⟩:=hcut
        go_upto_if 199 with fail
        go_cut[]from 25 (fun wx=> ∃(n3:Nat) (d3:Array α) (os3:Array Obj),wx=sortWorldK enc k w0 blk off n3 d3 os3∧d3.size=N∧Hid (PermIn a mid d2 d3∧SortedIn (ltOf cf) a mid d3))
        case first=>
         by_cases y:a<s∧s<mid
         ·have hy:(decide (a<s)&&decide (s<mid))=true:=by rw[decide_eq_true y.1,decide_eq_true y.2];rfl
          obtain⟨y1,y2⟩:=y
          rw[hy]
          go_wp2_with(go_at_fn 176;(with_reducible refine(IH.out a s mid n2 d2 os2 (by omega) y1 y2 (by omega) hd2 HPT.out.1 HPT.out.2.1).mono ?_);rintro e_ w' ⟨rfl,n3,os3,d3,rfl,hp,hs⟩)
          go_meet
          case rel=>exact⟨n3,d3,os3,rfl,by rw[hp.1];exact hd2,hp,hs⟩
         ·have hy:(decide (a<s)&&decide (s<mid))=false:=by
           by_cases y1:a<s
           ·rw[decide_eq_false (fun y2=>y ⟨y1,y2⟩),Bool.and_false]
           ·rw[decide_eq_false y1,Bool.false_and]
          rw[hy]
          go_wp2_with fail
          go_meet
          case rel=>
           refine⟨n2,d2,os2,rfl,hd2,permIn_refl _ _ _,?_⟩
           by_cases y1:a<s
           ·have e1:s=mid:=by omega
            rw[←e1];exact HPT.out.1
           ·have e1:a=s:=by omega
            rw[e1];exact HPT.out.2.1
        case rest=>as_aux_lemma=>
         obtain⟨n3,d3,os3,rfl,hd3,HP3⟩:=hcut
         have same3: ∀i,mid≤i→d3[i]! =d2[i]! :=fun i hi=>HP3.out.1.2.1 i (.inr hi)
         have HS3:Hid (SortedIn (ltOf cf) mid e d3∧SortedIn (ltOf cf) e b d3):=⟨zdl HPT.out.2.2.1 (fun i h1 _=>same3 i h1),zdl HPT.out.2.2.2.1 (fun i h1 _=>same3 i (by omega))⟩
         have fin: ∀d4:Array α,PermIn mid b d3 d4→SortedIn (ltOf cf) mid b d4→PermIn a b d d4∧SortedIn (ltOf cf) a b d4:=fun d4 hp hs=>by
          obtain⟨g1,g2⟩:=merge_glue (Nat.le_of_lt ham') (Nat.le_of_lt hmb') (by omega) HPT.out.2.2.2.2 HP3.out.1 HP3.out.2 hp hs
          exact⟨permIn_trans _ _ _ _ _ HRP.out.2 g1,g2⟩
         have FIN:=Lib.hid fin
         clear fin same3
         go_upto_region 43 with fail
         by_cases y1:mid<e
         ·have z1:(mid:Int)<(e:Int):=by omega
          by_cases y2:e<b
          ·have z2:(e:Int)<(b:Int):=by omega
           go_wp2_with(go_at_fn 176;(with_reducible refine(IH.out mid e b n3 d3 os3 (by omega) y1 y2 hb hd3 HS3.out.1 HS3.out.2).mono ?_);rintro e_ w' ⟨rfl,n4,os4,d4,rfl,hp,hs⟩)
           go_end0
           exact⟨rfl,n4,os4,d4,rfl,FIN.out d4 hp hs⟩
          ·have z2: ¬(e:Int)<(b:Int):=by omega
           have e1:e=b:=by omega
           go_wp2_with fail
           go_end0
           exact⟨rfl,n3,os3,d3,rfl,FIN.out d3 (permIn_refl _ _ _) (by rw[←e1];exact HS3.out.1)⟩
         ·have z1: ¬(mid:Int)<(e:Int):=by omega
          have e1:mid=e:=by omega
          go_wp2_with fail
          go_end0
          exact⟨rfl,n3,os3,d3,rfl,FIN.out d3 (permIn_refl _ _ _) (by rw[e1];exact HS3.out.2)⟩
end Go.Proofs.YtceddodfddlncaaGreatDoor
namespace Go.Proofs.YtceddodfddlncaaGreatDoor
open Go Go.RowKit Go.Sort
theorem rotate_any (blk cap a m b:Nat) (d:Array MT) (w:World) (hH:HoldsK encT 6 w blk 0 d) (hblk:blk<w.heap.size) (ham:a<m) (hmb:m<b) (hb:b≤d.size) (hsz:d.size<4611686018427387904):
  Calls Tryz.prog 198 #[.slice (some ⟨blk,0,none⟩) d.size cap,.int .i64 a,.int .i64 m,.int .i64 b,.func (.func 117) #[] #[]] w fun e w'=>
   e= .returned (.tuple #[])∧ ∃k os d',w'=sortWorldK encT 6 w blk 0 k d' os∧Rot d d' a m b∧PermIn a b d d':=by
 have hmath:=zmw m (b-a) (m-a) (b-m) d (by omega) (by omega) (by omega) (by omega) (by omega)
 rw[show m-(m-a)=a by omega,show m+(b-m)=b by omega]at hmath
 have HM:=Lib.hid hmath
 have HSW:=Lib.hid (fun(p q c k:Nat) (dk:Array MT) (os:Array Obj) (hsk:dk.size=d.size) (hp:p+c≤d.size) (hq:q+c≤d.size)=>by
  have:=zmk blk cap p q c dk (sortWorldK encT 6 w blk 0 k dk os) (holdsK_sortWorldK_c encT 6 w blk 0 d dk k os hH hblk hsk) (lt_sortWorldK encT 6 w blk 0 k dk os hblk) (by omega) (by omega) (by omega)
  rw[hsk]at this
  exact this.mono (fun e w' (h:_∧_)=>show e= .returned (.tuple #[])∧ ∃k' os',w'=sortWorldK encT 6 w blk 0 k' (swR p q c 0 dk) os' by
   obtain⟨he,k',os',rfl⟩:=h
   exact⟨he,k+k',os++os',sortWorldK_on encT 6 w blk 0 k k' _ _ os os' hblk (zfx p q c 0 dk)⟩))
 have HST:Hid (w=sortWorldK encT 6 w blk 0 0 d #[]):=Lib.hid (by unfold sortWorldK;rw[grow_empty];exact(putRowK_self encT 6 w blk 0 d hH).symm)
 obtain⟨N,hN⟩: ∃N,N=d.size:=⟨_,rfl⟩
 have HN:=Lib.hid hN
 rw[←hN]at HSW hb hsz⊢
 clear hmath hH hN
 have w1:IntKind.i64.wrap ((m:Int)-(a:Int))=((m-a:Nat):Int):=by rw[IntKind.wrap_i64];omega
 have w2:IntKind.i64.wrap ((b:Int)-(m:Int))=((b-m:Nat):Int):=by rw[IntKind.wrap_i64];omega
 go_enter Tryz.func198,Tryz.ntmps198
 go_wp2
 go_loopw[10,11] (fun v u wr=> ∃(i j k f:Nat) (dk:Array MT) (os:Array Obj),v= .int .i64 i∧u= .int .i64 j∧0<i∧0<j∧i≤m∧m+j≤N∧i+j≤f∧dk.size=N∧wr=sortWorldK encT 6 w blk 0 k dk os∧Hid (rotF m f i j dk=rotF m (b-a) (m-a) (b-m) d)) (fun v u _=>(intOf v).toNat+(intOf u).toNat)
 case atStart=>exact⟨m-a,b-m,0,b-a,d,#[],rfl,rfl,by omega,by omega,by omega,by omega,by omega,HN.out.symm,HST.out,rfl⟩
 case round=>
  obtain⟨i,j,k,f,dk,os,rfl,rfl,i0,j0,him,hjm,hf,hsk,rfl,HO⟩:=hrel
  obtain⟨f',rfl⟩: ∃f',f=f'+1:=⟨f-1,by omega⟩
  have ho:=HO.out
  rw[rotF]at ho
  clear HO
  have wm:IntKind.i64.wrap ((m:Int)-(i:Int))=((m-i:Nat):Int):=by rw[IntKind.wrap_i64];omega
  by_cases e:i=j
  ·subst e
   rw[if_pos rfl]at ho
   have HO:=Lib.hid ho
   clear ho
   go_wp2_with(go_at_call 214;refine(HSW.out (m-i) m i k dk os hsk (by omega) (by omega)).mono ?_;rintro e w' ⟨rfl,k',os',rfl⟩)
   go_end0
   exact⟨rfl,k',os',_,rfl,by rw[HO.out];exact HM.out.1,by rw[HO.out];exact HM.out.2⟩
  ·rw[if_neg e]at ho
   have hne: ¬(i:Int)=(j:Int):=by omega
   by_cases hl:j<i
   ·rw[if_pos hl]at ho
    have HO:=Lib.hid ho
    clear ho
    have hlz:(j:Int)<(i:Int):=by omega
    have wi:IntKind.i64.wrap ((i:Int)-(j:Int))=((i-j:Nat):Int):=by rw[IntKind.wrap_i64];omega
    go_wp2_with(go_at_call 214;refine(HSW.out (m-i) m j k dk os hsk (by omega) (by omega)).mono ?_;rintro e w' ⟨rfl,k',os',rfl⟩)
    go_roundw
    case rel=>exact⟨i-j,j,k',f',_,os',rfl,rfl,by omega,j0,by omega,hjm,by omega,by rw[zfx];exact hsk,rfl,HO.out⟩
    case measure=>simp[intOf];omega
   ·rw[if_neg hl]at ho
    have HO:=Lib.hid ho
    clear ho
    have hlz: ¬(j:Int)<(i:Int):=by omega
    have wi:IntKind.i64.wrap ((j:Int)-(i:Int))=((j-i:Nat):Int):=by rw[IntKind.wrap_i64];omega
    have wj:IntKind.i64.wrap ((m:Int)+(j:Int))=(m:Int)+(j:Int):=by rw[IntKind.wrap_i64];omega
    have wk:IntKind.i64.wrap ((m:Int)+(j:Int)-(i:Int))=((m+j-i:Nat):Int):=by rw[IntKind.wrap_i64];omega
    go_wp2_with(go_at_call 214;(with_reducible refine(HSW.out (m-i) (m+j-i) i k dk os hsk (by omega) (by omega)).mono ?_);rintro e w' ⟨rfl,k',os',rfl⟩)
    go_roundw
    case rel=>exact⟨i,j-i,k',f',_,os',rfl,rfl,i0,by omega,him,by omega,by omega,by rw[zfx];exact hsk,rfl,HO.out⟩
    case measure=>simp[intOf];omega
end Go.Proofs.YtceddodfddlncaaGreatDoor
