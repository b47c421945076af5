
import Derived.Test.YtceddodfddlncaaGreatDoorJb32
import Derived.Test.YtceddodfddlncaaGreatDoorJb33
import Derived.Test.YtceddodfddlncaaGreatDoorJb35
set_option maxRecDepth 100000
set_option maxHeartbeats 16000000
set_option linter.all false
namespace Go.Proofs.YtceddodfddlncaaGreatDoor
open Go Go.RowKit
def MsOk (ms:List (ByteArray×J)):Prop:=ms.length≤256∧(ms.map Prod.fst).Nodup∧ ∀m∈ms,Sm m.2
theorem goI_ok (l:List Int) (d:Nat): ∀(f i:Nat) (left:Int) (ms:List (ByteArray×J)) (j:Nat) (lf:Int) (ms':List (ByteArray×J)),i≤l.length→0≤left→(ms.length:Int)+left≤256→(ms.map Prod.fst).Nodup→(∀m∈ms,Sm m.2)→
  goI l 125 (zih l d) f i left ms= .inr (j,lf,ms')→MsOk ms'
 |0,i,left,ms,j,lf,ms',_,_,_,_,_,h=>by cases h
 |f+1,i,left,ms,j,lf,ms',hi,h0,h1,hn,hs,h=>by
  rw[goI]at h
  unfold zih at h
  cases hN:zii l i (ms.map Prod.fst)with
  |inl e=>rw[hN]at h;cases h
  |inr tj=>
   obtain⟨t,k⟩:=tj
   rw[hN]at h
   dsimp only at h
   obtain⟨n1,n2,n3,n4⟩:=zhd hN hi
   have hs1:=zak (l:=l) (i:=k) n2
   by_cases h58:atL l (zaW l k)≠58
   ·rw[if_pos h58]at h;cases h
   ·rw[if_neg h58]at h
    have hlt:=zbZ (l:=l) (i:=zaW l k) (by omega)
    have hs2:=zak (l:=l) (i:=zaW l k+1) hlt
    have hmv:=zbh l d (zaW l (zaW l k+1)) left hs2.2
    have hls:=zew l d (zaW l (zaW l k+1)) left
    have hsm:=valueL_sm l d (zaW l (zaW l k+1)) left h0 (by omega)
    obtain⟨r,hr⟩: ∃r,r=valueL l d (zaW l (zaW l k+1)) left:=⟨_,rfl⟩
    rw[←hr]at h hmv hls hsm
    by_cases he:r.2.2.2≠0
    ·rw[if_pos he]at h;cases h
    ·rw[if_neg he]at h
     obtain⟨m1,m2,m3,m4⟩:=hmv (by omega)
     have m5:=hls (by omega) hs2.2
     dsimp only at h
     have g1:(((ms++[(t,r.1)]).length:Nat):Int)+r.2.2.1≤256:=by rw[List.length_append,List.length_singleton];omega
     have g2:((ms++[(t,r.1)]).map Prod.fst).Nodup:=by
      rw[List.map_append,List.nodup_append]
      refine⟨hn,by simp,fun a ha b hb=> ?_⟩
      obtain rfl:b=t:=by simpa using hb
      rintro rfl
      unfold hasK at n4
      rw[List.any_eq_false]at n4
      exact n4 a ha (by simp)
     have g3: ∀m∈ms++[(t,r.1)],Sm m.2:=fun m hm=>by
      rcases List.mem_append.1 hm with hm|hm
      ·exact hs m hm
      ·rw[List.mem_singleton.1 hm];exact hsm
     by_cases h44:atL l r.2.1=44
     ·rw[if_pos h44]at h
      have hlt2:=zbZ (l:=l) (i:=r.2.1) (by omega)
      exact goI_ok l d f (r.2.1+1) r.2.2.1 (ms++[(t,r.1)]) j lf ms' hlt2 m3 g1 g2 g3 h
     ·rw[if_neg h44]at h
      by_cases hc:atL l r.2.1=125
      ·rw[if_pos hc]at h
       injection h with h
       injection h with _ h
       injection h with _ h
       rw[←h]
       exact⟨by omega,g2,g3⟩
      ·rw[if_neg hc]at h;cases h
theorem object_deep (s:ByteArray) (rb:Nat) (i:Nat) (left:Int) (w:World) (hr:Rdr w rb s i (256-left)):
  Calls Tryz.prog 166 #[.pointer (some ⟨rb,0,none⟩),.int .i64 9] w (ValPost w rb s (zeroJ,i,left,51)):=by
 have hLB:=obj_begin w rb s 9 i _ hr
 have HD:=Lib.hid (fun f=>zlz rb s i _ 9 125 f _ hLB.rdr (by decide) (by decide))
 have HG:=Lib.hid hLB.gr
 have hmf: ∀(fn:Fn) (first cap:Array Value) (w:World),(Instr.makeFunc fn first cap).run Tryz.prog w= .ok (.func fn first cap) w:=fun _ _ _ _=>rfl
 clear hr hLB
 go_enter Tryz.func166,Tryz.ntmps166
 go_wp2_with fail
 refine(HD.out _).mono ?_
 rintro e w2 ⟨rfl,hg⟩
 have HG2:=Lib.hid (HG.out.trans hg)
 clear hg
 go_wp2
 exact⟨rfl,ValPost.bad rfl (by decide) ⟨rfl,HG2.out⟩⟩
theorem obj_ask (s:ByteArray) (rb d:Nat) (hs:s.size≤10000) (hd:d≤8) (hv: ∀e,d=e+1→zfu s rb e) (hO: ∀ms,MsOk ms→OAsk ms):ObjAsk s rb d:=fun i left w hi h0 h1 hr hg h123=>by
 cases d with
 |zero=>exact object_deep s rb i left w hr
 |succ d=>
  have:=object_any s rb d hs (by omega) (hv d rfl) i left w hi h0 h1 hr hg h123 (fun j lf ms h=>by
   split at h
   ·injection h with h
    injection h with _ h
    injection h with _ h
    rw[←h]
    exact hO _ ⟨by simp,by simp,fun m hm=>by cases hm⟩
   ·exact hO _ (goI_ok (strL s) d _ _ _ _ _ _ _ (zak (by rw[zaQ];exact hi)).2 h0 (by simp;omega) (by simp) (fun m hm=>by cases hm) h))
  rw[show(9:Int)-((d+1:Nat):Int)=8-(d:Int)by omega]
  exact this
theorem parse_ofO (hO: ∀ms,MsOk ms→OAsk ms) (A:Option Addr) (xs:List Int) (n c:Nat) (W:World) (hn:xs.length=n) (hn2:n≤9223372036854775807) (hx:Bytes xs) (hl:Lies W A xs) (hm:Marks W) (ht:ErrTab W):
  Calls Tryz.prog 64 #[.slice A n c] W (zkn W (zai xs)):=
 parse_of A xs n c W hn hn2 hx hl hm ht fun h rb=>by
  have hs:(toS xs).size≤10000:=by rw[zcm];omega
  exact zjV (toS xs) rb hs (fun d hd hv=>obj_ask (toS xs) rb d hs hd hv hO) 8 (Nat.le_refl _)
theorem flatM_inv: ∀(zs:List MC) (k:Nat) (u:Value),(zeZ zs)[k]? =some u→ ∃j i,j<zs.length∧k=j*6+i∧(encM zs[j]!)[i]? =some u
 |[],k,u,h=>by cases h
 |z::r,k,u,h=>by
  replace h:(encM z++zeZ r)[k]? =some u:=h
  have h6:(encM z).length=6:=rfl
  by_cases hk:k<6
  ·rw[List.getElem?_append_left (by omega)]at h
   exact⟨0,k,by simp,by omega,h⟩
  ·rw[List.getElem?_append_right (by omega),h6]at h
   obtain⟨j,i,h1,h2,h3⟩:=flatM_inv r (k-6) u h
   exact⟨j+1,i,by simpa using h1,by omega,by rw[←h3];congr 2⟩
theorem FlatM.one {W:World} {S:Nat→Prop}: ∀{ms:List (ByteArray×J)} {zs:List MC},FlatM W S ms zs→ ∀u∈zeZ zs,u.oneCell'=true
 |[],zs,h,u,hu=>by rw[FlatM]at h;subst h;cases hu
 |m::r,zs,h,u,hu=>by
  obtain⟨z,zs',rfl,_,_,hx,h⟩:=h
  obtain⟨vk,A,c,e, -,⟨K,d,rfl, -, -⟩, -, -⟩:=hx.open
  simp only[Value.agg.injEq,Array.mk.injEq,List.cons.injEq,and_true]at e
  obtain⟨e0,e1,e2,e3,e4⟩:=e
  replace hu:u∈encM z++zeZ zs':=hu
  rcases List.mem_append.1 hu with hu|hu
  ·unfold encM at hu
   rw[e0,e1,e2,e3,e4]at hu
   simp only[List.mem_cons,List.not_mem_nil,or_false]at hu
   rcases hu with rfl|rfl|rfl|rfl|rfl|rfl<;>rfl
  ·exact h.one u hu
theorem cloneM_zero (a:Addr) (c:Nat) (w:World):
  Calls Tryz.prog 115 #[.slice (some a) 0 c] w fun e w'=> ∃v',e= .returned v'∧w'.ownsRow w.heap.size 133 6 v' 0 []∧Below w.heap.size w w':=by
 obtain⟨i0,hi,hz0,hz1,hz2⟩:=info_parts infoMp
 have q24: ∀(w:World) (a:Option Addr) (n c n' c':Nat),(binOp .eql 174 (.slice a n c) (.slice none n' c')).run Tryz.prog w= .ok (.bool a.isNone) w:=fun w a n c n' c'=>Lib.run_eql_slice_nil w _ _ a n c n' c' Tryz.underlying174
 go_enter Tryz.func115,Tryz.ntmps115
 go_wp2_with(at_builtin;refine wpList_append_own _ rfl _ _ 174 rfl w.heap.size 133 i0 (.agg #[.string ⟨#[]⟩,.int .i64 0,.int .i64 0,.string ⟨#[]⟩,.slice none 0 0,.slice none 0 0]) 6 96 Tryz.underlying174 hi hz0 hz1 hz2 rfl (by decide) _ _ _ rfl (World.ownsRow_made w #[] 0 (Nat.le_refl _) (Nat.zero_le _) rfl) a 0 c [] rfl rfl (by intro j u hj;simp at hj) (by intro u hu;simp at hu) (by unfold maxLen;omega) (by omega) (by simp) ?_)
 intro v' w1 hown hgrow hnil
 go_wp2
 go_ret
 exact⟨v',rfl,by simpa using hown,((Below.refl _ w).alloc (Nat.le_refl _) _).grown hgrow (by simp) (by intro k hk;simp[Value.ownBlock]at hk;omega)⟩
theorem cloneM_any (W:World) (S:Nat→Prop) (ms:List (ByteArray×J)) (zs:List MC) (hl:ms.length≤1000000) (v:Value) (hf:FlatM W S ms zs) (hr:RowM W v zs):
  Calls Tryz.prog 115 #[v] W fun e w'=> ∃v',e= .returned v'∧w'.ownsRow W.heap.size 133 6 v' ms.length (zeZ zs)∧Below W.heap.size W w':=by
 have hlen:=hf.length
 rcases hr with⟨rfl,rfl⟩|⟨g,c,rfl,hlt,hc⟩
 ·refine(show Calls Tryz.prog 115 #[.slice none 0 0] W _ from AnyE.slices_Clone_nil Tryz.cloneM 0 0 W).mono ?_
  rintro e w' ⟨rfl,rfl⟩
  refine⟨_,rfl,?_,Below.refl _ _⟩
  rw[←hlen]
  exact World.ownsRow_nil _ _ _ _
 ·by_cases hne:zs=[]
  ·subst hne
   refine(cloneM_zero _ c W).mono ?_
   rintro e w' ⟨v',rfl,hown,hb⟩
   exact⟨v',rfl,by rw[←hlen];exact hown,hb⟩
  ·obtain⟨i0,hi,hz0,hz1,hz2⟩:=info_parts infoMp
   have:=AnyE.slices_Clone Tryz.cloneM i0 _ 6 96 hi hz0 hz1 hz2 rfl (by decide) Tryz.sizeOf133 g 0 zs.length c (zeZ zs) W (flatM_length zs) (by unfold maxLen;omega) (by have:zs.length≠0:=fun h=>hne (List.eq_nil_of_length_eq_zero h);omega) (fun k u hu=>by
    obtain⟨j,i,h1,h2,h3⟩:=flatM_inv zs k u hu
    rw[show 0+k=0+j*6+i by omega]
    exact hc j h1 i u h3) hf.one
   refine(show Calls Tryz.prog 115 #[.slice (some ⟨g,0,none⟩) zs.length c] W _ from this).mono ?_
   rintro e w' ⟨v',rfl,hown,_,hb⟩
   exact⟨v',rfl,by rw[←hlen];exact hown,hb⟩
end Go.Proofs.YtceddodfddlncaaGreatDoor
namespace Go.Proofs.YtceddodfddlncaaGreatDoor
open Go Go.RowKit Go.Sort
structure MT where
 nm:ByteArray
 kind:Int
 n:Int
 s:ByteArray
 A:Option Addr
 al:Nat
 ac:Nat
 K:Option Addr
 kl:Nat
 kc:Nat
instance:Inhabited MT:=⟨⟨⟨#[]⟩,0,0,⟨#[]⟩,none,0,0,none,0,0⟩⟩
def MT.mc (x:MT):MC:=⟨x.nm,.int .i64 x.kind,.int .i64 x.n,.string x.s,.slice x.A x.al x.ac,.slice x.K x.kl x.kc⟩
def encT (x:MT):List Value:=encM x.mc
theorem znp (x:MT): ∀v∈encT x,v.oneCell'=true:=fun v hv=>by
 unfold encT encM MT.mc at hv
 simp only[List.mem_cons,List.not_mem_nil,or_false]at hv
 rcases hv with rfl|rfl|rfl|rfl|rfl|rfl<;>rfl
theorem FlatM.forms {W:World} {S:Nat→Prop}: ∀{ms:List (ByteArray×J)} {zs:List MC},FlatM W S ms zs→ ∃ys:List MT,zs=ys.map MT.mc
 |[],zs,h=>⟨[],h⟩
 |m::r,zs,h=>by
  obtain⟨z,zs',rfl,_,_,hx,h⟩:=h
  obtain⟨vk,A,c,e, -,⟨K,d,rfl, -, -⟩, -, -⟩:=hx.open
  simp only[Value.agg.injEq,Array.mk.injEq,List.cons.injEq,and_true]at e
  obtain⟨e0,e1,e2,e3,e4⟩:=e
  obtain⟨ys,rfl⟩:=h.forms
  obtain⟨nm,a0,a1,a2,a3,a4⟩:=z
  subst e0;subst e1;subst e2;subst e3;subst e4
  exact⟨⟨nm,_,_,_,A,_,c,K,_,d⟩::ys,rfl⟩
theorem alloc_two (w:World) (a b:Obj): ∃q os,(w.alloc a).alloc b=Sort.grow (w.drewN q) os:=⟨0,#[a,b],by
 unfold Sort.grow World.alloc World.drewN
 simp only[World.mk.injEq,true_and,and_true,Nat.add_zero]
 apply Array.ext'
 simp⟩
def cmpM (x y:MT):Int:=Lib.compareBytes x.nm.data.toList y.nm.data.toList
theorem cmp_any (x y:MT) (W:World):
  Calls Tryz.prog 117 #[.agg (encT x).toArray,.agg (encT y).toArray] W fun e w'=>e= .returned (.int .i64 (cmpM x y))∧ ∃q os,w'=Sort.grow (W.drewN q) os:=by
 show Calls Tryz.prog 117 #[.agg #[.string x.nm,.int .i64 x.kind,.int .i64 x.n,.string x.s,.slice x.A x.al x.ac,.slice x.K x.kl x.kc],.agg #[.string y.nm,.int .i64 y.kind,.int .i64 y.n,.string y.s,.slice y.A y.al y.ac,.slice y.K y.kl y.kc]] W _
 unfold cmpM
 have HC:=Lib.hid (fun(w:World)=>Tryz.strings_Compare x.nm y.nm w)
 obtain⟨c,hc⟩: ∃c,c=Lib.compareBytes x.nm.data.toList y.nm.data.toList:=⟨_,rfl⟩
 rw[←hc]at HC⊢
 clear hc
 go_enter Tryz.func117,Tryz.ntmps117
 go_wp2_with(go_at_call 118;(with_reducible refine(HC.out _).mono ?_);rintro e w' ⟨rfl,rfl⟩)
 go_ret
 exact⟨rfl,alloc_two _ _ _⟩
theorem cmp_lays (blk off size:Nat) (w:World):CmpLays Tryz.prog 117 #[] encT 6 cmpM blk off size w:=fun m os dk _ x y=>cmp_any x y _
theorem zmW: ∀args w,(callFunc 117 args).run Tryz.prog w= .ok (.enter 117 args) w:=enters_of Tryz.func117 (by kernel_rfl) rfl
theorem insert_any (blk cap a b:Nat) (d:Array MT) (w:World) (hH:HoldsK encT 6 w blk 0 d) (hblk:blk<w.heap.size) (hab:a≤b) (hb:b≤d.size) (hsz:d.size<4611686018427387904):
  Calls Tryz.prog 175 #[.slice (some ⟨blk,0,none⟩) d.size cap,.int .i64 a,.int .i64 b,.func (.func 117) #[] #[]] w fun e w'=>
   e= .returned (.tuple #[])∧ ∃n os,w'=sortWorldK encT 6 w blk 0 n (Sort.insertionSort (ltOf cmpM) d a b) os:=
 AnyQ.insertionSortCmpFunc Tryz.insertM 6 Tryz.isAgg133 Tryz.sizeOf133 encT (fun _=>rfl) znp cmpM 117 #[] blk 0 cap a b d w zmW (cmp_lays _ _ _ _) hH hblk hab hb hsz
end Go.Proofs.YtceddodfddlncaaGreatDoor
