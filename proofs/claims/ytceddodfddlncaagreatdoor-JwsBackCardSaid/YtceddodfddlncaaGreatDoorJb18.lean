
import Derived.Test.YtceddodfddlncaaGreatDoorJb14
set_option maxRecDepth 100000
set_option maxHeartbeats 16000000
set_option linter.all false
namespace Go.Proofs.YtceddodfddlncaaGreatDoor
open Go Go.RowKit
def Moves (l:List Int) (i:Nat) (left:Int) (r:VR):Prop:=r.2.2.2=0→i<r.2.1∧r.2.1≤l.length∧0≤r.2.2.1∧r.2.2.1≤left
theorem Moves.bad {l:List Int} {i:Nat} {left:Int} {v:J} {p:Nat} {n e:Int} (he:e≠0):Moves l i left (v,p,n,e):=fun h=>absurd h he
theorem zak {l:List Int} {i:Nat} (h:i≤l.length):i≤zaW l i∧zaW l i≤l.length:=zgz l.length l i (by omega) h
theorem Moves.mono {l:List Int} {i j:Nat} {left left':Int} {r:VR} (h:Moves l j left' r) (hi:i≤j) (hl:left'≤left):Moves l i left r:=fun he=>by
 obtain⟨h1,h2,h3,h4⟩:=h he
 exact⟨by omega,h2,h3,by omega⟩
theorem wordL_ok {l:List Int}: ∀{x:List Int} {i:Nat},(zci l i x).2=0→(zci l i x).1=i+x.length
 |[],i,_=>by rw[zci];rfl
 |c::r,i,h=>by
  rw[zci]at h⊢
  split
  ·rename_i hc;rw[if_pos hc]at h
   have:=wordL_ok h
   rw[this,List.length_cons];omega
  ·rename_i hc;rw[if_neg hc]at h
   exact absurd (show(50:Int)=0 from h) (by decide)
theorem zhV (l:List Int): ∀(f i:Nat) (out:List Int),(zbq l f i out).2.2=0→i<(zbq l f i out).2.1
 |0,i,out,h=>by rw[zbq]at h;exact absurd (show(50:Int)=0 from h) (by decide)
 |f+1,i,out,h=>by
  rw[zbq]at h⊢
  split
  ·rename_i hc;rw[if_pos hc]at h;exact absurd (show(50:Int)=0 from h) (by decide)
  ·rename_i hc;rw[if_neg hc]at h
   split
   ·exact Nat.lt_succ_self i
   ·rename_i h34;rw[if_neg h34]at h
    split
    ·rename_i h92;rw[if_pos h92]at h
     split
     ·rename_i hx;rw[if_pos hx]at h;exact absurd (show(50:Int)=0 from h) (by decide)
     ·rename_i hx;rw[if_neg hx]at h
      have:=zhV l f _ _ h
      have hn:=(zcZ (l:=l.drop i) (by omega)).2.2.1
      omega
    ·rename_i h92;rw[if_neg h92]at h
     split
     ·rename_i hu;rw[if_pos hu]at h
      split
      ·rename_i hx;rw[if_pos hx]at h;exact absurd (show(50:Int)=0 from h) (by decide)
      ·rename_i hx;rw[if_neg hx]at h;have:=zhV l f _ _ h;omega
     ·rename_i hu;rw[if_neg hu]at h
      split
      ·rename_i hx;rw[if_pos hx]at h;exact absurd (show(50:Int)=0 from h) (by decide)
      ·rename_i hx;rw[if_neg hx]at h
       split
       ·rename_i hy;rw[if_pos hy]at h;have:=zhV l f _ _ h;omega
       ·rename_i hy;rw[if_neg hy]at h
        split
        ·rename_i hz;rw[if_pos hz]at h;exact absurd (show(50:Int)=0 from h) (by decide)
        ·rename_i hz;rw[if_neg hz]at h;have:=zhV l f _ _ h;omega
theorem zgQ (l:List Int) (i:Nat) (h:(zan l i).2.2=0):i<(zan l i).2.1:=by
 unfold zan at h⊢
 split
 ·rename_i hc;rw[if_pos hc]at h;exact absurd (show(50:Int)=0 from h) (by decide)
 ·rename_i hc;rw[if_neg hc]at h
  have:=zhV l _ _ _ h
  omega
theorem zey {l:List Int} {i:Nat} {left left':Int} (hl:0≤left) (hll:left≤left') (v:J) (p:Nat×Int) (hp:p.2=0→i<p.1∧p.1≤l.length):Moves l i left' (zdh l left v p):=by
 unfold zdh
 split
 ·rename_i h;exact .bad h
 ·rename_i h
  have h0:p.2=0:=by omega
  obtain⟨h1,h2⟩:=hp h0
  have:=zak h2
  exact fun _=>⟨by show i<zaW l p.1;omega,this.2,hl,hll⟩
theorem zlQ {l:List Int} {many:Nat→Int→VR} (hm: ∀i left,i<l.length→0≤left→Moves l i left (many i left)) (i:Nat) (left:Int) (hi:i≤l.length):Moves l i left (valF l many i left):=by
 unfold valF
 by_cases hb:zba (atL l i)=true
 ·rw[if_neg (by rw[hb];simp)]
  have hlt:i<l.length:=zbZ (by intro e;rw[e]at hb;revert hb;decide)
  split
  ·exact .bad (by decide)
  ·rename_i h1
   split
   ·split
    ·exact .bad (by decide)
    ·rename_i hn
     have hle:=zfY (l.drop i)
     rw[List.length_drop]at hle
     split
     ·have:=zak (l:=l) (i:=i+zbY (l.drop i)) (by omega)
      exact fun _=>⟨by show i<zaW l _;omega,this.2,by show 0≤left-1;omega,by show left-1≤left;omega⟩
     ·exact .bad (by decide)
   ·have hw: ∀(x:List Int),x≠[]→(∀c∈x,0≤c)→(zci l i x).2=0→i<(zci l i x).1∧(zci l i x).1≤l.length:=fun x hne hx h=>by
     have h1:=wordL_ok h
     have h2:=zgv hx hi
     have:=List.length_pos_iff.2 hne
     exact⟨by omega,h2⟩
    split
    ·exact zey (by omega) (by omega) _ _ (hw _ (by decide) (by decide))
    ·split
     ·exact zey (by omega) (by omega) _ _ (hw _ (by decide) (by decide))
     ·split
      ·exact zey (by omega) (by omega) _ _ (hw _ (by decide) (by decide))
      ·split
       ·exact zey (by omega) (by omega) _ _ (fun h=>⟨zgQ l i h,zdr l i h⟩)
       ·exact(hm i (left-1) hlt (by omega)).mono (Nat.le_refl _) (by omega)
 ·rw[if_pos hb]
  exact .bad (by decide)
theorem zeb {l:List Int} {val:Nat→Int→VR} (hv: ∀i left,i≤l.length→0≤left→Moves l i left (val i left)) (obj:Bool): ∀(f:Nat) (first:Bool) (i:Nat) (left:Int) (ks:List ByteArray) (vs:List J),i≤l.length→0≤left→Moves l i left (zat l val obj f first i left ks vs)
 |0,first,i,left,ks,vs,_,_=>by rw[zat];exact .bad (by decide)
 |f+1,first,i,left,ks,vs,hi,hl=>by
  have item: ∀(a:Nat) (t:ByteArray),i≤a→a≤l.length→Moves l i left (zfa l val obj (zat l val obj f false) a left t ks vs):=fun a t ha hal=>by
   unfold zfa
   by_cases he:(val a left).2.2.2≠0
   ·rw[if_pos he];exact .bad he
   ·rw[if_neg he]
    obtain⟨h1,h2,h3,h4⟩:=hv a left hal hl (by omega)
    by_cases hc:atL l (val a left).2.1≠44∧atL l (val a left).2.1≠(if obj=true then 125 else 93)
    ·rw[if_pos hc];exact .bad (by decide)
    ·rw[if_neg hc]
     cases obj
     ·exact(zeb hv false f false _ _ _ _ h2 h3).mono (by omega) h4
     ·exact(zeb hv true f false _ _ _ _ h2 h3).mono (by omega) h4
  have memb: ∀(a:Nat),i≤a→a≤l.length→Moves l i left (zfg l val obj (zat l val obj f false) a left ks vs):=fun a ha hal=>by
   unfold zfg
   split
   ·split
    ·rename_i he;exact .bad he
    ·rename_i he
     have h0:(zan l a).2.2=0:=by omega
     have q1:=zgQ l a h0
     have q2:=zdr l a h0
     have s1:=zak q2
     split
     ·exact .bad (by decide)
     ·split
      ·exact .bad (by decide)
      ·rename_i h58
       have h3:=zbZ (l:=l) (i:=zaW l (zan l a).2.1) (by omega)
       have s2:=zak (l:=l) (i:=zaW l (zan l a).2.1+1) (by omega)
       exact item _ _ (by omega) s2.2
   ·exact item _ _ ha hal
  rw[zat]
  by_cases he:atL l i=(if obj=true then 125 else 93)
  ·rw[if_pos he]
   have h3:=zbZ (l:=l) (i:=i) (by rw[he];cases obj<;>decide)
   have s2:=zak (l:=l) (i:=i+1) (by omega)
   exact fun _=>⟨by show i<zaW l (i+1);omega,s2.2,hl,Int.le_refl _⟩
  ·rw[if_neg he]
   split
   ·exact memb _ (Nat.le_refl _) hi
   ·split
    ·exact .bad (by decide)
    ·rename_i h44
     have h3:=zbZ (l:=l) (i:=i) (by omega)
     have s2:=zak (l:=l) (i:=i+1) (by omega)
     exact memb _ (by omega) s2.2
theorem zbh (l:List Int): ∀(d i:Nat) (left:Int),i≤l.length→Moves l i left (valueL l d i left)
 |0,i,left,hi=>by rw[valueL];exact zlQ (fun i left _ _=> .bad (by decide)) i left hi
 |d+1,i,left,hi=>by
  rw[valueL]
  refine zlQ (fun i left hi hl=> ?_) i left hi
  unfold zfK
  have s:=zak (l:=l) (i:=i+1) (by omega)
  exact(zeb (fun i left hi _=>zbh l d i left hi) _ _ _ _ _ _ _ s.2 hl).mono (by omega) (Int.le_refl _)
def zbz (s:ByteArray):J:= .mk 3 0 s [] []
def Tells1 (W:World) (kind n:Int) (s:ByteArray) (e:Ending) (w':World):Prop:=e= .returned (.agg #[.int .i64 kind,.int .i64 n,.string s,.slice none 0 0,.slice none 0 0])∧Below W.heap.size W w'
theorem zgw (s:ByteArray) (w:World) (hs:s.size≤9223372036854775807):Calls Tryz.prog 68 #[.string s] w (Tells1 w 3 0 s):=by
 go_enter Tryz.func68,Tryz.ntmps68
 go_wp2
 refine bodyPost_ret (v:= .agg #[.int .i64 3,.int .i64 0,.string s,.slice none 0 0,.slice none 0 0]) (by simp[results,Tryz.results68,go_sem]) rfl ⟨rfl,?_⟩
 exact((Below.refl _ _).alloc (Nat.le_refl _) _)
theorem int_any (n:Int) (w:World):Calls Tryz.prog 167 #[.int .i64 n] w (Tells1 w 2 n ⟨#[]⟩):=by
 go_enter Tryz.func167,Tryz.ntmps167
 go_wp2
 refine bodyPost_ret (v:= .agg #[.int .i64 2,.int .i64 n,.string ⟨#[]⟩,.slice none 0 0,.slice none 0 0]) (by simp[results,Tryz.results167,go_sem]) rfl ⟨rfl,?_⟩
 exact((Below.refl _ _).alloc (Nat.le_refl _) _)
theorem bool_any (b:Bool) (w:World):Calls Tryz.prog 163 #[.bool b] w (Tells1 w 1 (if b then 1 else 0) ⟨#[]⟩):=by
 cases b
 ·go_enter Tryz.func163,Tryz.ntmps163
  go_wp2
  refine bodyPost_ret (v:= .agg #[.int .i64 1,.int .i64 0,.string ⟨#[]⟩,.slice none 0 0,.slice none 0 0]) (by simp[results,Tryz.results163,go_sem]) rfl ⟨rfl,?_⟩
  exact(((Below.refl _ _).alloc (Nat.le_refl _) _).alloc (by simp) _)
 ·go_enter Tryz.func163,Tryz.ntmps163
  go_wp2
  refine bodyPost_ret (v:= .agg #[.int .i64 1,.int .i64 1,.string ⟨#[]⟩,.slice none 0 0,.slice none 0 0]) (by simp[results,Tryz.results163,go_sem]) rfl ⟨rfl,?_⟩
  exact(((Below.refl _ _).alloc (Nat.le_refl _) _).alloc (by simp) _)
end Go.Proofs.YtceddodfddlncaaGreatDoor
namespace Go.Proofs.YtceddodfddlncaaGreatDoor
open Go
def At (l:List Int) (i:Nat) (t:List Int):Prop:=l.drop i=t++l.drop (i+t.length)
theorem At.app {l:List Int} {i:Nat} {t u:List Int}:At l i (t++u)↔At l i t∧At l (i+t.length) u:=by
 unfold At
 constructor
 ·intro h
  rw[List.length_append,←Nat.add_assoc]at h
  have h2:l.drop (i+t.length)=u++l.drop (i+t.length+u.length):=by
   have:=congrArg (List.drop t.length) h
   rw[List.drop_drop,List.append_assoc,List.drop_left]at this
   exact this
  exact⟨by rw[h,List.append_assoc,←h2],h2⟩
 ·rintro⟨h1,h2⟩
  rw[List.length_append,←Nat.add_assoc,List.append_assoc,←h2,←h1]
theorem At.get {l:List Int} {i:Nat} {t:List Int} (h:At l i t) {k:Nat} (hk:k<t.length):atL l (i+k)=t.getD k 0:=by
 have:atL (l.drop i) k=t.getD k 0:=by
  rw[h];unfold atL
  rw[List.getD_eq_getElem?_getD,List.getD_eq_getElem?_getD,List.getElem?_append_left hk,List.getElem?_eq_getElem hk];rfl
 rwa [zfb]at this
theorem At.one {l:List Int} {i:Nat} {c:Int} {r:List Int} (h:At l i (c::r)):atL l i=c∧At l (i+1) r:=by
 have h2:At l i ([c]++r):=h
 obtain⟨a,b⟩:=At.app.1 h2
 exact⟨by have:=a.get (k:=0) (by simp);simpa using this,b⟩
theorem At.le {l:List Int} {i:Nat} {t:List Int} (h:At l i t) (hne:t≠[]):i+t.length≤l.length:=by
 have h1:=congrArg List.length h
 rw[List.length_drop,List.length_append,List.length_drop]at h1
 have:0<t.length:=List.length_pos_iff.2 hne
 omega
theorem zil {l:List Int}: ∀(x:List Int) (i:Nat),At l i x→zci l i x=(i+x.length,0)
 |[],i,_=>rfl
 |c::r,i,h=>by
  obtain⟨h1,h2⟩:=h.one
  rw[zci,if_pos h1,zil r (i+1) h2,List.length_cons,show i+1+r.length=i+(r.length+1)by omega]
theorem zld {d r:List Int} (hd:AllD d) (hr: ∀e r',r=e::r'→isD e=false):runL (d++r)=d.length:=by
 cases r with
 |nil=>rw[List.append_nil];exact zit hd
 |cons e r'=>exact runL_app e r' hd (hr e r' rfl)
theorem lead_app {t r:List Int} (h:zeV t=true) (hr: ∀e r',r=e::r'→isD e=false):zbY (t++r)=t.length:=by
 rcases zkb h with⟨_,hd,h49,e⟩|⟨h45,hd,hne,h1⟩
 ·obtain⟨d,hdd⟩: ∃d,d=t.drop 1:=⟨_,rfl⟩
  rw[←hdd]at hd h49 e
  subst e
  cases d with
  |nil=>simp at h49
  |cons c q=>
   rw[List.getD_cons_zero]at h49
   have h57:=(hd c (by simp)).2
   rw[List.cons_append,zbY,if_pos rfl,List.cons_append,List.getD_cons_zero,if_pos ⟨h49,h57⟩,←List.cons_append,zld hd hr]
   rfl
 ·cases t with
  |nil=>exact absurd rfl hne
  |cons c q=>
   rw[List.getD_cons_zero]at h45 h1
   rw[List.cons_append,zbY,if_neg h45]
   by_cases h48:c=48
   ·subst h48
    rw[if_pos rfl]
    rcases h1 with h1|h1
    ·exact absurd h1 (by decide)
    ·exact h1.symm
   ·rw[if_neg h48,←List.cons_append,zld hd hr]
theorem lead_at {l:List Int} {i:Nat} {t:List Int} (h:At l i t) (hf:zeV t=true) (he:isD (atL l (i+t.length))=false):zbY (l.drop i)=t.length∧(l.drop i).take t.length=t:=by
 rw[h]
 refine⟨lead_app hf fun e r' hr=> ?_,List.take_left⟩
 have h1:atL (l.drop (i+t.length)) 0=e:=by rw[hr];rfl
 rw[zfb,Nat.add_zero]at h1
 rw[←h1];exact he
def qB (xs:List Int):List Int:=xs.flatMap qOne
theorem qB_nil:qB []=[]:=rfl
theorem zjr (c:Int) (r:List Int):qB (c::r)=qOne c++qB r:=rfl
theorem qB_app (a b:List Int):qB (a++b)=qB a++qB b:=List.flatMap_append
theorem qPre_is (l:List Int): ∀k,k≤l.length→qPre l k=34::qB (l.take k)
 |0,_=>rfl
 |k+1,h=>by
  rw[qPre,qPre_is l k (by omega),List.take_succ_eq_append_getElem (by omega),qB_app,List.getD_eq_getElem?_getD,List.getElem?_eq_getElem (by omega)]
  simp[qB]
theorem zen (l:List Int):zar l=34::(qB l++[34]):=by
 unfold zar
 rw[qPre_is l l.length (Nat.le_refl _),List.take_length];rfl
theorem qOne_pos (c:Int):1≤(qOne c).length:=by
 unfold qOne;split
 ·simp
 ·split<;>simp
theorem qB_len: ∀xs:List Int,xs.length≤(qB xs).length
 |[]=>Nat.le_refl _
 |c::r=>by
  have:=qB_len r
  have:=qOne_pos c
  rw[zjr,List.length_append,List.length_cons];omega
theorem qB_self: ∀xs:List Int,(∀x∈xs,qOne x=[x])→qB xs=xs
 |[],_=>rfl
 |c::r,h=>by rw[zjr,h c (by simp),qB_self r (fun x hx=>h x (List.mem_cons_of_mem _ hx))];rfl
theorem hexD_S {d:Int} (h0:0≤d) (h1:d<16):hexD (hexS d)=d:=by
 unfold hexD hexS
 by_cases h:d<10
 ·rw[if_pos h,if_pos (by omega)];omega
 ·rw[if_neg h,if_neg (by omega),if_pos (by omega)];omega
theorem zmV {c:Int} {r:List Int} (hv:(nxL (c::r)).1≠ -1) (h:c<128):(nxL (c::r)).2=1∧(nxL (c::r)).1=c:=by
 obtain⟨h1,h2,h3,h4,_,h6,h7⟩:=zcZ hv
 obtain⟨m,hm⟩: ∃m,(nxL (c::r)).2=m+1:=⟨(nxL (c::r)).2-1,by omega⟩
 rw[hm,List.take_succ_cons]at h1
 rcases zcs (nxL (c::r)).1 with⟨h',_⟩|⟨_,hlt,h'⟩|⟨_,_,h'⟩|⟨_,_,_,h'⟩|⟨_,_,h'⟩<;>rw[h']at h1 h2
 ·cases h1
 ·injection h1 with a b
  simp at h2
  exact⟨h2.symm,a⟩
 all_goals(injection h1 with a b;omega)
theorem zjq (l:List Int): ∀(n:Nat) (xs:List Int),xs.length≤n→Bytes xs→badU xs=xs.length→ ∀(f i:Nat) (out:List Int),xs.length<f→At l i (qB xs++[34])→zbq l f i out=(out++xs,i+(qB xs).length+1,0)
 |n,[],_,_,_,0,i,out,hf,h=>absurd hf (Nat.not_lt_zero _)
 |n,[],_,_,_,f+1,i,out,hf,h=>by
  obtain⟨h1,_⟩:=At.one (r:=[]) h
  rw[zbq,if_neg (by omega),if_pos h1,List.append_nil,qB_nil];rfl
 |0,c::r,hl,_,_,_,_,_,_,_=>by simp at hl
 |n+1,c::r,hl,hby,hu,0,i,out,hf,h=>absurd hf (Nat.not_lt_zero _)
 |n+1,c::r,hl,hby,hu,f+1,i,out,hf,h=>by
  have hv:(nxL (c::r)).1≠ -1:=fun e=>by rw[zfs e]at hu;cases hu
  have hb:=zft hv
  obtain⟨p1,p2,p3,p4,_,p6,p7⟩:=zcZ hv
  obtain⟨m,hm⟩: ∃m,m=(nxL (c::r)).2:=⟨_,rfl⟩
  obtain⟨N,hN⟩: ∃N,N=(nxL (c::r)).1:=⟨_,rfl⟩
  rw[←hm]at hb p1 p2 p3 p4
  rw[←hN]at p1 p2 p6 p7
  have hu2:badU ((c::r).drop m)=((c::r).drop m).length:=by rw[List.length_drop];omega
  have hlen:((c::r).drop m).length<f:=by rw[List.length_drop];simp only[List.length_cons]at hf⊢;omega
  have hln:((c::r).drop m).length≤n:=by rw[List.length_drop];simp only[List.length_cons]at hl⊢;omega
  have hc:=hby.mem (x:=c) (by simp)
  by_cases hlow:c<32∨c=34∨c=92
  ·obtain⟨e1,e2⟩:=zmV hv (by omega)
   rw[←hm]at e1;rw[←hN]at e2
   subst e1;subst e2
   rw[List.drop_succ_cons,List.drop_zero]at hu2 hlen hln
   have hbr:Bytes r:= .of_mem fun x hx=>hby.mem (List.mem_cons_of_mem _ hx)
   rw[zjr,List.append_assoc]at h
   obtain⟨ha,hrest⟩:=At.app.1 h
   have hgo:=fun out=>zjq l n r hln hbr hu2 f (i+(qOne N).length) out hlen hrest
   have hfin: ∀out:List Int,(out++[N]++r,i+(qOne N).length+(qB r).length+1,(0:Int))=(out++N::r,i+(qB (N::r)).length+1,0):=fun out=>by
    rw[zjr,List.length_append,List.append_assoc,←Nat.add_assoc];rfl
   by_cases h32:N<32
   ·have hq:qOne N=[92,117,48,48,hexS (N/16),hexS (N%16)]:=by unfold qOne;rw[if_pos h32]
    rw[hq]at ha hgo hfin
    obtain⟨a0,ha⟩:=ha.one
    obtain⟨a1,ha⟩:=ha.one
    obtain⟨a2,ha⟩:=ha.one
    obtain⟨a3,ha⟩:=ha.one
    obtain⟨a4,ha⟩:=ha.one
    obtain⟨a5,_⟩:=ha.one
    have d4:=hexD_S (d:=N/16) (by omega) (by omega)
    have d5:=hexD_S (d:=N%16) (by omega) (by omega)
    have hx:hexL l 4 (i+2) 0=(N,0):=by
     rw[hexL,a2,if_neg (by decide),hexL,a3,if_neg (by decide),hexL,a4,d4,if_neg (by omega),hexL,a5,d5,if_neg (by omega),hexL]
     have:hexD 48=0:=by decide
     rw[this]
     congr 1;omega
    rw[zbq,if_neg (by omega),if_neg (by omega),if_neg (by omega),if_neg (by omega),hx,if_neg (by omega),if_pos (.inl (by show N<55296;omega)),zea (by omega) (by omega)]
    exact(hgo _).trans (hfin out)
   ·have hq:qOne N=[92,N]:=by unfold qOne;rw[if_neg h32,if_pos (by omega)]
    rw[hq]at ha hgo hfin
    obtain⟨a0,ha⟩:=ha.one
    obtain⟨a1,_⟩:=ha.one
    have hpl:zay N=[N]:=by unfold zay;rw[if_pos (by omega)]
    rw[zbq,if_neg (by omega),if_neg (by omega),if_neg (by omega),if_pos (by omega),a1,hpl,if_neg (by simp)]
    exact(hgo _).trans (hfin out)
  ·have hself: ∀x∈(c::r).take m,qOne x=[x]:=fun x hx=>by
    by_cases h128:c<128
    ·obtain⟨e1,e2⟩:=zmV hv h128
     rw[←hm]at e1
     rw[e1,List.take_succ_cons,List.take_zero,List.mem_singleton]at hx
     subst hx
     unfold qOne;rw[if_neg (by omega),if_neg (by omega)]
    ·have hNb:128≤N:=Decidable.byContradiction fun hn=>by
      rw[zea p6 (by omega)]at p1
      obtain⟨m',rfl⟩: ∃m',m=m'+1:=⟨m-1,by omega⟩
      rw[List.take_succ_cons]at p1
      injection p1 with a b;omega
     have:=putL_big hNb x (by rw[p1];exact hx)
     unfold qOne;rw[if_neg (by omega),if_neg (by omega)]
   obtain⟨T,hT⟩: ∃T,T=(c::r).take m:=⟨_,rfl⟩
   obtain⟨D,hD⟩: ∃D,D=(c::r).drop m:=⟨_,rfl⟩
   have hcr:c::r=T++D:=by rw[hT,hD,List.take_append_drop]
   have hTl:T.length=m:=by rw[hT,List.length_take];omega
   have hqT:qB T=T:=qB_self T (by rw[hT];exact hself)
   rw[←hT]at p1
   rw[←hD]at hu2 hlen hln
   have hat:atL l i=c:=by
    have hT1: ∃T',T=c::T':=by
     obtain⟨m',e⟩: ∃m',m=m'+1:=⟨m-1,by omega⟩
     rw[e,List.take_succ_cons]at hT
     exact⟨_,hT⟩
    obtain⟨T',hT'⟩:=hT1
    rw[hcr,qB_app,hqT,hT',List.cons_append,List.cons_append]at h
    exact h.one.1
   rw[hcr,qB_app,hqT,List.append_assoc]at h
   obtain⟨ha,hrest⟩:=At.app.1 h
   have hnx:nxL (l.drop i)=(N,m):=by
    rw[ha,←p1,nx_put p7,p2]
   have htk:(l.drop i).take m=T:=by rw[ha,←hTl,List.take_left]
   have hbD:Bytes D:=by rw[hD];exact hby.drop m
   rw[zbq,if_neg (by omega),if_neg (by omega),if_pos (by omega),hnx,if_neg (by show ¬N<0;omega)]
   show zbq l f (i+m) (out++(l.drop i).take m)=_
   rw[htk]
   rw[hTl]at hrest
   rw[zjq l n D hln hbD hu2 f (i+m) _ hlen hrest,hcr,qB_app,hqT,List.length_append,hTl,List.append_assoc,←Nat.add_assoc]
 termination_by n xs=>n
theorem quoted_at {l:List Int} {i:Nat} {xs:List Int} (hb:Bytes xs) (hu:badU xs=xs.length) (h:At l i (zar xs)):zan l i=(xs,i+(zar xs).length,0):=by
 rw[zen]at h⊢
 obtain⟨h1,h2⟩:=h.one
 have hle:=h2.le (by simp)
 rw[List.length_append]at hle
 have hq:=qB_len xs
 unfold zan
 rw[if_neg (fun hn=>hn h1),zjq l _ xs (Nat.le_refl _) hb hu (l.length+1) (i+1) [] (by simp at hle;omega) h2,List.nil_append]
 simp only[List.length_cons,List.length_append,List.length_nil]
 rw[show i+1+(qB xs).length+1=i+((qB xs).length+(0+1)+1)by omega]
end Go.Proofs.YtceddodfddlncaaGreatDoor
