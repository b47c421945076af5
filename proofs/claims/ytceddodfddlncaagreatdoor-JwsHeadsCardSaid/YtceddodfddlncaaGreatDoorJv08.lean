
import Derived.Deep.AppendLies
import Derived.Great.BuildSlice
import Derived.Test.YtceddodfddlncaaGreatDoorJv06
import Derived.Test.YtceddodfddlncaaGreatDoorJv07
set_option maxRecDepth 100000
set_option maxHeartbeats 16000000
set_option linter.all false
namespace Go.Proofs.YtceddodfddlncaaGreatDoor
open Go Go.RowKit Tryz
def eU:=@World.news_of_block
def ft:=@World.ownsRow_nil
def fR:=@cell_one_new
def fX:=@step_append_lies
def gL:=@ByteArray.size_append
def gR:=@List.set_cons_succ
def ic:=@wpList_append_own_at
def iy:=@List.length_map
def iL:=@World.ownsRow_lit
def iP:=@results103
def jW:=@underlying166
def lm:=@ntmps103
def lp:=@ntmps195
def lH:=@func195
def lI:=@func103
def lV:=@Option.toList_some
def mw:=@decide_eq_decide
def mS:=@Ne.symm
def zC (z least most:Int):Value:=if least≤z∧z≤most then .tuple #[.int .i64 z,.int .i64 0,.int .i64 (-1)]else .tuple #[.int .i64 0,.int .i64 41,.int .i64 (-1)]
theorem Jy {z B q:Int} (h:B≤z∧z≤q):zC z B q= .tuple #[.int .i64 z,.int .i64 0,.int .i64 (-1)]:=dP h
theorem He {z B q:Int} (h: ¬(B≤z∧z≤q)):zC z B q= .tuple #[.int .i64 0,.int .i64 41,.int .i64 (-1)]:=dN h
theorem NP (s:ByteArray) (E D:Int) (w:World) (G:s.size≤1000000000) (q:oh (a_ s)=false):
  Calls prog 103 #[.string s,.int .i64 E,.int .i64 D] w fun e w'=>e= .returned (.tuple #[.int .i64 0,.int .i64 40,.int .i64 (np (a_ s):Int)])∧w=w':=by
 have B:=dM (fun W:World=>Ho s W (by omega))
 rw[q]at B
 have F:=dM (fun W:World=>MQ s W (by omega))
 clear q
 go_enter lI,lm
 go_wp2_with(first
  |(go_at_call 134;(with_reducible refine(B.out _).mono ?_);rintro e w' ⟨rfl,rfl⟩)
  |(go_at_call 102;(with_reducible refine(F.out _).mono ?_);rintro e w' ⟨rfl,rfl⟩))
 refine dW (v:= .tuple #[.int .i64 0,.int .i64 40,.int .i64 (np (a_ s):Int)]) (by simp[results,iP,go_sem]) rfl ⟨rfl,rfl⟩
theorem Ok (s:ByteArray) (U R:Int) (w:World) (V:s.size≤1000000000) (q:oh (a_ s)=true) (B:(a_ s).getD 0 0≠45) (E:9223372036854775807<mY (a_ s)):
  Calls prog 103 #[.string s,.int .i64 U,.int .i64 R] w fun e w'=>e= .returned (.tuple #[.int .i64 0,.int .i64 41,.int .i64 (-1)])∧w=w':=by
 have G:=j_ s
 have hz:0<s.size:=by
  rcases iB s.size with h|h
  ·rw[qy (a:=s) (b:=⟨#[]⟩) (by rw[ea (G.trans h)];rfl)]at q
   exact absurd q (by decide)
  ·exact h
 have h0:(((s[0]'hz).toNat:Int)==45)=false:=by rw[dY,←o_ s 0 hz];exact B
 have F:=Iv q
 obtain⟨M,I⟩:AllD (a_ s)∧(49≤(a_ s).getD 0 0∨(a_ s).length=1):=by
  rcases F with⟨h1,O,N,_⟩|⟨h1,O,_,N⟩
  ·exact absurd h1 B
  ·exact⟨O,N⟩
 have Q:=dM (fun W:World=>Ho s W (by omega))
 rw[q]at Q
 have L:a_ s=(a_ s):=rfl
 have D:=dM (fun W:World=>J8 ⟨#[57,50,50,51,51,55,50,48,51,54,56,53,52,55,55,53,56,48,55]⟩ s W)
 rw[L,JM (a:=a_ ⟨#[57,50,50,51,51,55,50,48,51,54,56,53,52,55,55,53,56,48,55]⟩) (by unfold AllD;decide) M (by decide) I (by decide),show mY (a_ ⟨#[57,50,50,51,51,55,50,48,51,54,56,53,52,55,55,53,56,48,55]⟩)=9223372036854775807 by decide]at D
 rw[ec E]at D
 clear q G B F M I L E
 go_enter lI,lm
 go_wp2_with(first
  |(go_at_call 134;(with_reducible refine(Q.out _).mono ?_);rintro e w' ⟨rfl,rfl⟩)
  |(go_at_call 135;(with_reducible refine(D.out _).mono ?_);rintro e w' ⟨rfl,rfl⟩))
 refine dW (v:= .tuple #[.int .i64 0,.int .i64 41,.int .i64 (-1)]) (by simp[results,iP,go_sem]) rfl ⟨rfl,rfl⟩
theorem Of (s:ByteArray) (N M:Int) (w:World) (hs:s.size≤1000000000) (D:oh (a_ s)=true) (U:(a_ s).getD 0 0≠45) (hv:mY (a_ s)≤9223372036854775807):
  Calls prog 103 #[.string s,.int .i64 N,.int .i64 M] w fun e w'=>e= .returned (zC (mY (a_ s):Int) N M)∧w=w':=by
 have ab:=j_ s
 have hz:0<s.size:=by
  rcases iB s.size with h|h
  ·rw[qy (a:=s) (b:=⟨#[]⟩) (by rw[ea (ab.trans h)];rfl)]at D
   exact absurd D (by decide)
  ·exact h
 have h0:(((s[0]'hz).toNat:Int)==45)=false:=by rw[dY,←o_ s 0 hz];exact U
 have aa:=Iv D
 obtain⟨R,ad⟩:AllD (a_ s)∧(49≤(a_ s).getD 0 0∨(a_ s).length=1):=by
  rcases aa with⟨h1,V,h3,_⟩|⟨h1,V,_,h3⟩
  ·exact absurd h1 U
  ·exact⟨V,h3⟩
 have ag:=dM (fun W:World=>Ho s W (by omega))
 rw[D]at ag
 have G:a_ s=(a_ s):=rfl
 have Z:=dM (fun W:World=>J8 ⟨#[57,50,50,51,51,55,50,48,51,54,56,53,52,55,55,53,56,48,55]⟩ s W)
 rw[G,JM (a:=a_ ⟨#[57,50,50,51,51,55,50,48,51,54,56,53,52,55,55,53,56,48,55]⟩) (by unfold AllD;decide) R (by decide) ad (by decide),show mY (a_ ⟨#[57,50,50,51,51,55,50,48,51,54,56,53,52,55,55,53,56,48,55]⟩)=9223372036854775807 by decide]at Z
 rw[dT (by omega)]at Z
 have I:s.size=(a_ s).length:=by rw[←G,j_]
 have Q:(a_ s).length≤1000000000:=by omega
 have ah:=dM R
 have L:=dM (fun(k:Nat)=>dV (LB (a_ s) k) hv)
 have HG:=dM (fun(k:Nat) (B:k<s.size)=>o_ s k B)
 rw[G]at HG
 have af:=dM (fun(k:Nat) (B:k<(a_ s).length)=>show mY ((a_ s).take (k+1))=mY ((a_ s).take k)*10+((a_ s).getD k 0-48).toNat by
  rw[eS B,JU,dR,dZ B];rfl)
 have ae:Hid ((a_ s).take (a_ s).length=(a_ s)):=dM (g9)
 obtain⟨l,hl⟩:=yaa ((a_ s))
 rw[←hl]at L HG af ae ah I Q⊢
 have ao:(1:Int)≤(s.size:Int):=by omega
 have Y:=dM I
 have am:s.size≤1000000000:=by rw[I];exact Q
 clear D ab U aa R ad G hv hl I Q
 go_enter lI,lm
 go_wp2_with(first
  |(go_at_call 134;(with_reducible refine(ag.out _).mono ?_);rintro e w' ⟨rfl,rfl⟩)
  |(go_at_call 135;(with_reducible refine(Z.out _).mono ?_);rintro e w' ⟨rfl,rfl⟩))
 go_loop [12,13] (fun n i=> ∃k:Nat,k≤l.length∧i= .int .i64 (k:Int)∧n= .int .i64 (mY (l.take k):Int)) (fun _ i=>l.length-(intOf i).toNat)
 case atStart=>exact⟨0,by omega,rfl,rfl⟩
 case round=>
  obtain⟨k,B,rfl,rfl⟩:=hrel
  by_cases F:k<l.length
  ·have ak:k<s.size:=by rw[Y.out];exact F
   have hd:=ah.out.at k F
   have O:=af.out k F
   have ai:=L.out (k+1)
   have E:=L.out k
   rw[HG.out k ak]at hd O
   have HN:Hid ((mY (l.take (k+1)):Int)=(mY (l.take k):Int)*10+((((s[k]'ak).toNat:Int))-48)):=dM (by rw[O];omega)
   have aj:(mY (l.take k):Int)*10+((((s[k]'ak).toNat:Int))-48)≤9223372036854775807:=by omega
   obtain⟨v,q⟩:=yaa (mY (l.take k))
   rw[←q]at aj E HN⊢
   obtain⟨au,ar⟩:=hd
   clear O q ai
   go_wp2
   go_round
   case rel=>exact⟨k+1,by omega,by go_num,by rw[HN.out]⟩
   case measure=>simp[intOf];omega
  ·obtain rfl:k=l.length:=by omega
   have aq: ¬l.length<s.size:=by rw[Y.out];omega
   have E:=L.out l.length
   rw[ae.out]at E⊢
   obtain⟨v,q⟩:=yaa (mY l)
   have av:Hid (((s.size:Nat):Int)=(l.length:Int)):=dM (by rw[Y.out])
   have ap: ¬(l.length:Int)<(s.size:Int):=by omega
   rw[←q]at E⊢
   have X:=dM q
   clear q F
   by_cases h1:(v:Int)<N
   ·go_wp2
    refine dW (v:= .tuple #[.int .i64 0,.int .i64 41,.int .i64 (-1)]) (by simp[results,iP,go_sem]) rfl ⟨?_,rfl⟩
    rw[←X.out,He (by omega)]
   ·by_cases V:M<(v:Int)
    ·go_wp2
     refine dW (v:= .tuple #[.int .i64 0,.int .i64 41,.int .i64 (-1)]) (by simp[results,iP,go_sem]) rfl ⟨?_,rfl⟩
     rw[←X.out,He (by omega)]
    ·go_wp2
     refine dW (v:= .tuple #[.int .i64 (v:Int),.int .i64 0,.int .i64 (-1)]) (by simp[results,iP,go_sem]) rfl ⟨?_,rfl⟩
     rw[←X.out,Jy (by omega)]
theorem Oh (s:ByteArray) (U R:Int) (w:World) (V:s.size≤1000000000) (q:oh (a_ s)=true) (B:(a_ s).getD 0 0=45) (E:9223372036854775808<mY ((a_ s).drop 1)):
  Calls prog 103 #[.string s,.int .i64 U,.int .i64 R] w fun e w'=>e= .returned (.tuple #[.int .i64 0,.int .i64 41,.int .i64 (-1)])∧w=w':=by
 have G:=j_ s
 have hz:0<s.size:=by
  rcases iB s.size with h|h
  ·rw[qy (a:=s) (b:=⟨#[]⟩) (by rw[ea (G.trans h)];rfl)]at q
   exact absurd q (by decide)
  ·exact h
 have h0:(((s[0]'hz).toNat:Int)==45)=true:=by rw[gm,←o_ s 0 hz];exact B
 have F:=Iv q
 obtain⟨M,I⟩:AllD ((a_ s).drop 1)∧(49≤((a_ s).drop 1).getD 0 0∨((a_ s).drop 1).length=1):=by
  rcases F with⟨h1,O,N,_⟩|⟨h1,O,_,N⟩
  ·exact⟨O,.inl N⟩
  ·exact absurd B h1
 have Q:=dM (fun W:World=>Ho s W (by omega))
 rw[q]at Q
 have L:a_ (s.extract 1 s.size)=((a_ s).drop 1):=by rw[pF,eo (by omega)]
 have D:=dM (fun W:World=>J8 ⟨#[57,50,50,51,51,55,50,48,51,54,56,53,52,55,55,53,56,48,56]⟩ (s.extract 1 s.size) W)
 rw[L,JM (a:=a_ ⟨#[57,50,50,51,51,55,50,48,51,54,56,53,52,55,55,53,56,48,56]⟩) (by unfold AllD;decide) M (by decide) I (by decide),show mY (a_ ⟨#[57,50,50,51,51,55,50,48,51,54,56,53,52,55,55,53,56,48,56]⟩)=9223372036854775808 by decide]at D
 rw[ec E]at D
 clear q G B F M I L E
 go_enter lI,lm
 go_wp2_with(first
  |(go_at_call 134;(with_reducible refine(Q.out _).mono ?_);rintro e w' ⟨rfl,rfl⟩)
  |(go_at_call 135;(with_reducible refine(D.out _).mono ?_);rintro e w' ⟨rfl,rfl⟩))
 refine dW (v:= .tuple #[.int .i64 0,.int .i64 41,.int .i64 (-1)]) (by simp[results,iP,go_sem]) rfl ⟨rfl,rfl⟩
theorem Oa (s:ByteArray) (R Q:Int) (w:World) (hs:s.size≤1000000000) (E:oh (a_ s)=true) (Z:(a_ s).getD 0 0=45) (hv:mY ((a_ s).drop 1)≤9223372036854775808):
  Calls prog 103 #[.string s,.int .i64 R,.int .i64 Q] w fun e w'=>e= .returned (zC (-(mY ((a_ s).drop 1):Int)) R Q)∧w=w':=by
 have ae:=j_ s
 have hz:0<s.size:=by
  rcases iB s.size with h|h
  ·rw[qy (a:=s) (b:=⟨#[]⟩) (by rw[ea (ae.trans h)];rfl)]at E
   exact absurd E (by decide)
  ·exact h
 have h0:(((s[0]'hz).toNat:Int)==45)=true:=by rw[gm,←o_ s 0 hz];exact Z
 have ad:=Iv E
 obtain⟨X,af⟩:AllD ((a_ s).drop 1)∧(49≤((a_ s).drop 1).getD 0 0∨((a_ s).drop 1).length=1):=by
  rcases ad with⟨h1,h2,h3,_⟩|⟨h1,h2,_,h3⟩
  ·exact⟨h2,.inl h3⟩
  ·exact absurd Z h1
 have ai:=dM (fun W:World=>Ho s W (by omega))
 rw[E]at ai
 have L:a_ (s.extract 1 s.size)=((a_ s).drop 1):=by rw[pF,eo (by omega)]
 have N:=dM (fun W:World=>J8 ⟨#[57,50,50,51,51,55,50,48,51,54,56,53,52,55,55,53,56,48,56]⟩ (s.extract 1 s.size) W)
 rw[L,JM (a:=a_ ⟨#[57,50,50,51,51,55,50,48,51,54,56,53,52,55,55,53,56,48,56]⟩) (by unfold AllD;decide) X (by decide) af (by decide),show mY (a_ ⟨#[57,50,50,51,51,55,50,48,51,54,56,53,52,55,55,53,56,48,56]⟩)=9223372036854775808 by decide]at N
 rw[dT (by omega)]at N
 have F:(s.extract 1 s.size).size=((a_ s).drop 1).length:=by rw[←L,j_]
 have V:((a_ s).drop 1).length≤1000000000:=by rw[eq];omega
 have aj:=dM X
 have M:=dM (fun(k:Nat)=>dV (LB ((a_ s).drop 1) k) hv)
 have O:=dM (fun(k:Nat) (B:k<(s.extract 1 s.size).size)=>o_ (s.extract 1 s.size) k B)
 rw[L]at O
 have ah:=dM (fun(k:Nat) (B:k<((a_ s).drop 1).length)=>show mY (((a_ s).drop 1).take (k+1))=mY (((a_ s).drop 1).take k)*10+(((a_ s).drop 1).getD k 0-48).toNat by
  rw[eS B,JU,dR,dZ B];rfl)
 have ag:Hid (((a_ s).drop 1).take ((a_ s).drop 1).length=((a_ s).drop 1)):=dM (g9)
 obtain⟨l,hl⟩:=yaa (((a_ s).drop 1))
 rw[←hl]at M O ah ag aj F V⊢
 obtain⟨D,Y⟩:=yaa (s.extract 1 s.size)
 rw[←Y]at N O F
 have ap:=dM Y
 have ar:(1:Int)≤(s.size:Int):=by omega
 have ab:=dM F
 have aq:D.size≤1000000000:=by rw[F];exact V
 clear E ae Z ad X af L hv hl Y F V
 go_enter lI,lm
 go_wp2_with(first
  |(go_at_call 134;(with_reducible refine(ai.out _).mono ?_);rintro e w' ⟨rfl,rfl⟩)
  |(go_at_call 135;rw[←ap.out];(with_reducible refine(N.out _).mono ?_);rintro e w' ⟨rfl,rfl⟩))
 go_loop [12,13] (fun n i=> ∃k:Nat,k≤l.length∧i= .int .i64 (k:Int)∧n= .int .i64 (-(mY (l.take k):Int))) (fun _ i=>l.length-(intOf i).toNat)
 case atStart=>exact⟨0,by omega,rfl,rfl⟩
 case round=>
  obtain⟨k,B,rfl,rfl⟩:=hrel
  by_cases I:k<l.length
  ·have ao:k<D.size:=by rw[ab.out];exact I
   have hd:=aj.out.at k I
   have U:=ah.out k I
   have ak:=M.out (k+1)
   have G:=M.out k
   rw[O.out k ao]at hd U
   have HN:Hid ((-(mY (l.take (k+1)):Int))= -(mY (l.take k):Int)*10-((((D[k]'ao).toNat:Int))-48)):=dM (by rw[U];omega)
   have am:(mY (l.take k):Int)*10+((((D[k]'ao).toNat:Int))-48)≤9223372036854775808:=by omega
   obtain⟨v,q⟩:=yaa (mY (l.take k))
   rw[←q]at am G HN⊢
   obtain⟨ax,aw⟩:=hd
   clear U q ak
   go_wp2
   go_round
   case rel=>exact⟨k+1,by omega,by go_num,by rw[HN.out]⟩
   case measure=>simp[intOf];omega
  ·obtain rfl:k=l.length:=by omega
   have av: ¬l.length<D.size:=by rw[ab.out];omega
   have G:=M.out l.length
   rw[ag.out]at G⊢
   obtain⟨v,q⟩:=yaa (mY l)
   have ay:Hid (((D.size:Nat):Int)=(l.length:Int)):=dM (by rw[ab.out])
   have au: ¬(l.length:Int)<(D.size:Int):=by omega
   rw[←q]at G⊢
   have aa:=dM q
   clear q I
   by_cases h1:(-(v:Int))<R
   ·go_wp2
    refine dW (v:= .tuple #[.int .i64 0,.int .i64 41,.int .i64 (-1)]) (by simp[results,iP,go_sem]) rfl ⟨?_,rfl⟩
    rw[←aa.out,He (by omega)]
   ·by_cases h2:Q<(-(v:Int))
    ·go_wp2
     refine dW (v:= .tuple #[.int .i64 0,.int .i64 41,.int .i64 (-1)]) (by simp[results,iP,go_sem]) rfl ⟨?_,rfl⟩
     rw[←aa.out,He (by omega)]
    ·go_wp2
     refine dW (v:= .tuple #[.int .i64 (-(v:Int)),.int .i64 0,.int .i64 (-1)]) (by simp[results,iP,go_sem]) rfl ⟨?_,rfl⟩
     rw[←aa.out,Jy (by omega)]
def DX (l:List Int) (least most:Int):Value:=if oh l=true then(if oj l least most=true then .tuple #[.int .i64 (oP l),.int .i64 0,.int .i64 (-1)]else .tuple #[.int .i64 0,.int .i64 41,.int .i64 (-1)])else .tuple #[.int .i64 0,.int .i64 40,.int .i64 (np l:Int)]
theorem rX (s:ByteArray) (D B:Int) (w:World) (G:s.size≤1000000000) (h0: -9223372036854775808≤D) (h1:B≤9223372036854775807):
  Calls prog 103 #[.string s,.int .i64 D,.int .i64 B] w fun e w'=>e= .returned (DX (a_ s) D B)∧w=w':=by
 unfold DX
 by_cases E:oh (a_ s)=true
 ·rw[dP E]
  by_cases F:(a_ s).getD 0 0=45
  ·have I:oP (a_ s)= -(mY ((a_ s).drop 1):Int):=by unfold oP;rw[dP F]
   rcases eX 9223372036854775808 (mY ((a_ s).drop 1))with hv|hv
   ·rw[dN (by unfold oj;rw[eb,I];omega)]
    exact Oh s D B w G E F hv
   ·have:=Oa s D B w G E F hv
    rw[←I]at this
    by_cases q:oj (a_ s) D B=true
    ·rw[dP q]
     unfold oj at q
     rw[eb]at q
     rwa [Jy q.2.2]at this
    ·rw[dN q]
     unfold oj at q
     rw[eb]at q
     rwa [He (by omega)]at this
  ·have I:oP (a_ s)=(mY (a_ s):Int):=by unfold oP;rw[dN F]
   rcases eX 9223372036854775807 (mY (a_ s))with hv|hv
   ·rw[dN (by unfold oj;rw[eb,I];omega)]
    exact Ok s D B w G E F hv
   ·have:=Of s D B w G E F hv
    rw[←I]at this
    by_cases q:oj (a_ s) D B=true
    ·rw[dP q]
     unfold oj at q
     rw[eb]at q
     rwa [Jy q.2.2]at this
    ·rw[dN q]
     unfold oj at q
     rw[eb]at q
     rwa [He (by omega)]at this
 ·rw[dN E]
  exact NP s D B w G (by simpa using E)
theorem KV: ∀(l:List Int),m_ (l.take (m_ l))=m_ l
 |[]=>rfl
 |c::r=>by
  by_cases h:C7 c=true
  ·have e:m_ (c::r)=m_ r+1:=by rw[m_,dP h]
   rw[e,io,m_,dP h,KV r]
  ·have e:m_ (c::r)=0:=by rw[m_,dN h]
   rw[e];rfl
theorem x_ (r:List Int) (k:Nat) (h:0<k):(r.take k).getD 0 0=r.getD 0 0:=by
 cases r with
 |nil=>simp
 |cons a t=>obtain⟨j,rfl⟩: ∃j,k=j+1:=⟨k-1,by omega⟩;rfl
theorem Nm {l:List Int} (h:np l≠0):oh (l.take (np l))=true:=by
 have L:=Fw l
 unfold oh
 rw[eb]
 have D:(l.take (np l)).length=np l:=by rw[ep];omega
 refine⟨fun e=>by rw[e]at D;exact h D.symm,?_⟩
 rw[D]
 cases l with
 |nil=>rfl
 |cons c r=>
  have e:np (c::r)=if c=45 then(if 49≤r.getD 0 0∧r.getD 0 0≤57 then m_ r+1 else 0)else if c=48 then 1 else m_ (c::r):=by rw[np]
  by_cases F:c=45
  ·subst F
   by_cases q:49≤r.getD 0 0∧r.getD 0 0≤57
   ·rw[dP rfl,dP q]at e
    rw[e,io,np,dP rfl,x_ r _ (by
     cases r with
     |nil=>simp at q
     |cons a t=>rw[eA]at q;rw[m_,dP (ot.2 (by omega))];omega),dP q,KV]
   ·rw[dP rfl,dN q]at e
    exact absurd e h
  ·rw[dN F]at e
   by_cases E:c=48
   ·subst E
    rw[dP rfl]at e
    rw[e];rfl
   ·rw[dN E]at e
    have I:m_ (c::r)≠0:=by rw[←e];exact h
    obtain⟨j,G⟩: ∃j,m_ (c::r)=j+1:=⟨m_ (c::r)-1,by omega⟩
    have B:=KV (c::r)
    rw[e]
    rw[G]at B⊢
    rw[io]at B⊢
    rw[np,dN F,dN E]
    exact B
def pw (s:ByteArray):Bool:=decide ((a_ s).getD 0 0=45)
theorem uW (s:ByteArray) (w:World) (I:s.size≤9223372036854775807):
  Calls prog 229 #[.string s,.string ⟨#[45]⟩] w fun e w'=>e= .returned (.bool (pw s))∧w=w':=by
 have q:=j_ s
 by_cases h1:1≤s.size
 ·have E:(1:Int)≤(s.size:Int):=by omega
  have F:((s.extract 0 1).toList==[45])=pw s:=by
   rw[show([45]:List UInt8)=(⟨#[45]⟩:ByteArray).toList by rw[eT],BG,pw]
   have:s.extract 0 1=⟨#[45]⟩↔(a_ s).getD 0 0=45:=by
    constructor
    ·intro h
     have:=eH a_ h
     rw[pF]at this
     cases hl:a_ s with
     |nil=>rw[hl]at q;simp at q;omega
     |cons c r=>
      rw[hl]at this
      simpa[a_]using this
    ·intro h
     apply qy
     rw[pF]
     cases hl:a_ s with
     |nil=>rw[hl]at q;simp at q;omega
     |cons c r=>
      rw[hl]at h
      rw[eA]at h
      subst h
      simp[a_]
   exact mw.2 this
  obtain⟨B,D⟩:=yaa (pw s)
  rw[←D]at F⊢
  clear D q
  go_enter func229,ntmps229
  go_wp2
  go_ret
  exact⟨rfl,rfl⟩
 ·have E: ¬(1:Int)≤(s.size:Int):=by omega
  have G:Hid (pw s=false):=dM (by
   unfold pw
   rw[ea (q.trans (by omega))];rfl)
  clear q
  go_enter func229,ntmps229
  go_wp2
  go_ret
  rw[G.out]
  exact⟨rfl,rfl⟩
def pd (s:ByteArray):ByteArray:=if pw s=true then s.extract 1 s.size else s
theorem Bf {s:ByteArray} (h:pw s=true):1≤s.size:=by
 unfold pw at h
 rw[eb]at h
 rw[←j_]
 cases hl:a_ s with
 |nil=>rw[hl]at h;simp at h
 |cons c r=>simp
theorem vC (s:ByteArray) (w:World) (D:s.size≤9223372036854775807):
  Calls prog 226 #[.string s,.string ⟨#[45]⟩] w fun e w'=>e= .returned (.tuple #[.string (pd s),.bool (pw s)])∧w=w':=by
 have q:=dM (uW s w D)
 cases hd:pw s with
 |true=>
  rw[hd]at q
  have E:(1:Int)≤(s.size:Int):=by have:=Bf hd;omega
  have B:Hid (pd s=s.extract 1 s.size):=dM (by unfold pd;rw[dP hd])
  clear hd
  go_enter func226,ntmps226
  go_wp2_with(go_at_call 229;refine q.out.mono ?_;rintro e w' ⟨rfl,rfl⟩)
  go_ret2
  rw[B.out]
  exact⟨rfl,rfl⟩
 |false=>
  rw[hd]at q
  have B:Hid (pd s=s):=dM (by unfold pd;rw[dN (by rw[hd];decide)])
  clear hd
  go_enter func226,ntmps226
  go_wp2_with(go_at_call 229;refine q.out.mono ?_;rintro e w' ⟨rfl,rfl⟩)
  go_ret2
  rw[B.out]
  exact⟨rfl,rfl⟩
theorem sG (s:ByteArray) (w:World) (q:s.size≤9223372036854775807):
  Calls prog 220 #[.string s,.string ⟨#[45]⟩] w fun e w'=>e= .returned (.tuple #[.string (pd s),.bool (pw s)])∧w=w':=by
 have B:=dM (vC s w q)
 go_enter func220,ntmps220
 go_wp2_with(go_at_call 226;refine B.out.mono ?_;rintro e w' ⟨rfl,rfl⟩)
 go_ret2
 exact⟨rfl,rfl⟩
theorem qV (s:ByteArray) (w:World) (q:s.size≤9223372036854775807):
  Calls prog 209 #[.string s] w fun e w'=>e= .returned (.tuple #[.bool (pw s),.string (pd s)])∧w=w':=by
 have B:=dM (sG s w q)
 go_enter func209,ntmps209
 go_wp2_with(go_at_call 220;refine B.out.mono ?_;rintro e w' ⟨rfl,rfl⟩)
 go_ret2
 exact⟨rfl,rfl⟩
theorem rR: ∀{l:List Int} {k:Nat},k≤l.length→(∀j,j<k→48≤l.getD j 0∧l.getD j 0≤57)→(k<l.length→ ¬(48≤l.getD k 0∧l.getD k 0≤57))→m_ l=k
 |[],k,hk,_,_=>by simp at hk;subst hk;rfl
 |c::r,0,_,_,h=>by
  have:=h (by simp)
  rw[eA]at this
  rw[m_,dN (by rw[ot];exact this)]
 |c::r,k+1,hk,ha,h=>by
  have h0:=ha 0 (by omega)
  rw[eA]at h0
  rw[m_,dP (ot.2 h0),rR (l:=r) (k:=k) (by simpa using hk) (fun j B=>by
   have:=ha (j+1) (by omega)
   rwa [fy]at this) (fun q=>by
   have:=h (by simpa using q)
   rwa [fy]at this)]
theorem N8 (s:ByteArray) (w:World) (R:s.size≤9223372036854775807):
  Calls prog 210 #[.string s] w fun e w'=>e= .returned (.int .i64 (m_ (a_ s):Int))∧w=w':=by
 have F:=dM (j_ s)
 go_enter func210,ntmps210
 go_wp2
 go_loop [6] (fun i=> ∃k:Nat,k≤s.size∧i= .int .i64 (k:Int)∧ ∀j,j<k→48≤(a_ s).getD j 0∧(a_ s).getD j 0≤57) (fun i=>s.size-(intOf i).toNat)
 case atStart=>exact⟨0,by omega,rfl,fun j O=>by omega⟩
 case round=>
  obtain⟨k,N,rfl,I⟩:=hrel
  have G:=dM I
  clear I
  by_cases M:k<s.size
  ·have L:=dM (o_ s k M)
   by_cases q:48≤(a_ s).getD k 0∧(a_ s).getD k 0≤57
   ·obtain⟨E,D⟩:=q
    have Q:=dM (And.intro E D)
    rw[L.out]at E D
    go_wp2
    go_round
    case rel=>exact⟨k+1,by omega,by go_num,fun j O=>by
     rcases eX j k with h|h
     ·exact G.out j h
     ·obtain rfl:j=k:=by omega
      exact Q.out⟩
    case measure=>simp[intOf];omega
   ·have B:Hid (m_ (a_ s)=k):=dM (rR (by rw[F.out];exact N) G.out (fun _=>q))
    rw[L.out]at q
    by_cases E:((s[k]'M).toNat:Int)<48
    ·clear q
     go_wp2
     go_ret
     rw[B.out]
     exact⟨rfl,rfl⟩
    ·have D:57<((s[k]'M).toNat:Int):=by omega
     clear q
     go_wp2
     go_ret
     rw[B.out]
     exact⟨rfl,rfl⟩
  ·obtain rfl:k=s.size:=by omega
   have B:Hid (m_ (a_ s)=s.size):=dM (rR (by rw[F.out];exact dQ _) G.out (fun h=>by rw[F.out]at h;omega))
   go_wp2
   go_ret
   rw[B.out]
   exact⟨rfl,rfl⟩
theorem tZ (s:ByteArray):a_ (pd s)=if pw s=true then(a_ s).drop 1 else a_ s:=by
 unfold pd
 split
 ·rw[pF,eo (by rw[j_];exact dQ _)]
 ·rfl
theorem Mn (s:ByteArray):(pd s).size≤s.size:=by
 rw[←j_,←j_,tZ]
 split
 ·rw[eq];omega
 ·exact dQ _
theorem xe {l:List Int} (h:0<m_ l):48≤l.getD 0 0∧l.getD 0 0≤57:=ot.1 (Mo l 0 h)
theorem Ag {l:List Int} (h:m_ l=0): ¬(48≤l.getD 0 0∧l.getD 0 0≤57):=fun q=>by
 cases l with
 |nil=>simp at q
 |cons c r=>rw[eA]at q;rw[m_,dP (ot.2 q)]at h;omega
theorem Bg {s:ByteArray} (h:pw s=true):a_ s=45::(a_ s).drop 1:=by
 unfold pw at h
 rw[eb]at h
 cases hl:a_ s with
 |nil=>rw[hl]at h;simp at h
 |cons c r=>rw[hl]at h;rw[eA]at h;rw[h];rfl
theorem AJ {s:ByteArray} (h:pw s=true):np (a_ s)=if 0<m_ (a_ (pd s))∧(a_ (pd s)).getD 0 0≠48 then m_ (a_ (pd s))+1 else 0:=by
 rw[tZ,dP h,Bg h,lE,iu,np,dP rfl]
 obtain⟨r,q⟩:=yaa ((a_ s).drop 1)
 rw[←q]
 by_cases h0:0<m_ r
 ·have:=xe h0
  by_cases B:r.getD 0 0=48
  ·rw[dN (by omega),dN (by omega)]
  ·rw[dP (by omega),dP ⟨h0,B⟩]
 ·have:=Ag (l:=r) (by omega)
  rw[dN (by omega),dN (by omega)]
theorem xN {s:ByteArray} (h:pw s=false):np (a_ s)=if 0<m_ (a_ (pd s))∧(a_ (pd s)).getD 0 0=48 then 1 else m_ (a_ (pd s)):=by
 rw[show a_ (pd s)=a_ s by rw[tZ,h];rfl]
 unfold pw at h
 rw[fz]at h
 obtain⟨l,B⟩:=yaa (a_ s)
 rw[←B]at h⊢
 cases l with
 |nil=>rfl
 |cons c r=>
  rw[eA]at h⊢
  rw[np,dN h]
  by_cases q:c=48
  ·have:0<m_ (c::r):=by rw[m_,dP (ot.2 (by omega))];omega
   rw[dP q,dP ⟨this,q⟩]
  ·rw[dN q,dN (by omega)]
theorem KO (s:ByteArray) (w:World) (R:s.size≤9223372036854775806):
  Calls prog 195 #[.string s] w fun e w'=>e= .returned (.int .i64 (np (a_ s):Int))∧Below w.heap.size w w':=by
 have O:=Mn s
 have q:=dM (qV s w (by omega))
 have HC:=dM (N8 (pd s) w (by omega))
 have F:Hid (pw s=true→np (a_ s)=if 0<m_ (a_ (pd s))∧(a_ (pd s)).getD 0 0≠48 then m_ (a_ (pd s))+1 else 0):=dM AJ
 have E:Hid (pw s=false→np (a_ s)=if 0<m_ (a_ (pd s))∧(a_ (pd s)).getD 0 0=48 then 1 else m_ (a_ (pd s))):=dM xN
 have I:=Jr (a_ (pd s))
 rw[j_]at I
 obtain⟨T,N⟩:=yaa (pd s)
 obtain⟨m,M⟩:=yaa (np (a_ s))
 rw[←N]at q HC F E O I
 rw[←M]at F E⊢
 have G:Hid (∀h:0<T.size,(a_ T).getD 0 0=((T[0]'h).toNat:Int)):=dM (fun h=>o_ T 0 h)
 obtain⟨n,L⟩:=yaa (m_ (a_ T))
 rw[←L]at HC F E I
 clear M N L
 by_cases h0:0<n
 ·have hz:0<T.size:=by omega
  have U:((n:Int)==0)=false:=by rw[dY];omega
  by_cases D:((T[0]'hz).toNat:Int)=48
  ·have Q:(((T[0]'hz).toNat:Int)==48)=true:=by rw[gm];exact D
   cases hd:pw s with
   |true=>
    rw[hd]at q
    have B:Hid (m=0):=dM (by rw[F.out hd,dN (by rw[G.out hz];omega)])
    clear hd D
    go_enter lH,lp
    go_wp2_with(first
     |(go_at_call 209;refine q.out.mono ?_;rintro e w' ⟨rfl,rfl⟩)
     |(go_at_call 210;refine HC.out.mono ?_;rintro e w' ⟨rfl,rfl⟩))
    go_ret
    rw[B.out]
    exact⟨rfl,dU _ _⟩
   |false=>
    rw[hd]at q
    have B:Hid (m=1):=dM (by rw[E.out hd,dP ⟨h0,by rw[G.out hz];exact D⟩])
    clear hd D
    go_enter lH,lp
    go_wp2_with(first
     |(go_at_call 209;refine q.out.mono ?_;rintro e w' ⟨rfl,rfl⟩)
     |(go_at_call 210;refine HC.out.mono ?_;rintro e w' ⟨rfl,rfl⟩))
    go_ret
    rw[B.out]
    exact⟨rfl,dU _ _⟩
  ·have Q:(((T[0]'hz).toNat:Int)==48)=false:=by rw[dY];exact D
   cases hd:pw s with
   |true=>
    rw[hd]at q
    have B:Hid (m=n+1):=dM (by rw[F.out hd,dP ⟨h0,by rw[G.out hz];exact D⟩])
    clear hd D
    go_enter lH,lp
    go_wp2_with(first
     |(go_at_call 209;refine q.out.mono ?_;rintro e w' ⟨rfl,rfl⟩)
     |(go_at_call 210;refine HC.out.mono ?_;rintro e w' ⟨rfl,rfl⟩))
    go_ret
    rw[B.out]
    exact⟨tg (by omega),dU _ _⟩
   |false=>
    rw[hd]at q
    have B:Hid (m=n):=dM (by rw[E.out hd,dN (by rw[G.out hz];omega)])
    clear hd D
    go_enter lH,lp
    go_wp2_with(first
     |(go_at_call 209;refine q.out.mono ?_;rintro e w' ⟨rfl,rfl⟩)
     |(go_at_call 210;refine HC.out.mono ?_;rintro e w' ⟨rfl,rfl⟩))
    go_ret
    rw[B.out]
    exact⟨rfl,dU _ _⟩
 ·obtain rfl:n=0:=by omega
  have B:Hid (m=0):=dM (by
   cases hd:pw s with
   |true=>rw[F.out hd,dN (by omega)]
   |false=>rw[E.out hd,dN (by omega)])
  clear h0
  go_enter lH,lp
  go_wp2_with(first
   |(go_at_call 209;refine q.out.mono ?_;rintro e w' ⟨rfl,rfl⟩)
   |(go_at_call 210;refine HC.out.mono ?_;rintro e w' ⟨rfl,rfl⟩))
  go_ret
  rw[B.out]
  exact⟨rfl,dU _ _⟩
theorem B1 {l:List Int} {k:Nat} (q:k<l.length):mY (l.take (k+1))=mY (l.take k)*10+(l.getD k 0-48).toNat:=by
 rw[eS q,JU,dR,dZ q];rfl
def pV (s:ByteArray):Int:=if pw s=true then-(mY (a_ (pd s)):Int)else(mY (a_ (pd s)):Int)
def ya (s:ByteArray):Bool:=decide (-9223372036854775808≤pV s∧pV s≤9223372036854775807)
theorem uw (s:ByteArray):pV s=oP (a_ s):=by
 unfold pV oP
 rw[tZ]
 unfold pw
 by_cases h:(a_ s).getD 0 0=45
 ·rw[ec h,dP rfl,dP rfl,dP h]
 ·rw[dT h,dN (by decide),dN (by decide),dN h]
theorem B0 (d:Int) (h0:0≤d) (h1:d≤9):(-9223372036854775808+d).tdiv 10= -((9223372036854775808-d)/10):=by
 rw[show-9223372036854775808+d= -(9223372036854775808-d)by omega,Int.neg_tdiv,Int.tdiv_eq_ediv_of_nonneg (by omega)]
theorem xt (s:ByteArray) (w:World) (hs:s.size≤9223372036854775807) (O:AllD (a_ (pd s))):
  Calls prog 211 #[.string s] w fun e w'=>e= .returned (.tuple #[.int .i64 (if ya s=true then pV s else 0),.bool (ya s)])∧w=w':=by
 have W:=Mn s
 have R:=dM (qV s w hs)
 have B:Hid (pV s=if pw s=true then-(mY (a_ (pd s)):Int)else(mY (a_ (pd s)):Int)):=dM rfl
 have E:Hid (ya s=decide (-9223372036854775808≤pV s∧pV s≤9223372036854775807)):=dM rfl
 obtain⟨T,hT⟩:=yaa (pd s)
 obtain⟨D,aa⟩:=yaa (pw s)
 obtain⟨N,hN⟩:=yaa (pV s)
 obtain⟨F,hF⟩:=yaa (ya s)
 rw[←hT]at R B O W
 rw[←aa]at R B
 rw[←hN]at B E⊢
 rw[←hF]at E⊢
 have G:Hid ((F=true→(if F=true then N else 0)=N)∧(F=false→(if F=true then N else 0)=0)):=dM ⟨fun h=>dP h,fun h=>dN (by rw[h];decide)⟩
 obtain⟨X,hX⟩:=yaa (if F=true then N else 0)
 rw[←hX]at G⊢
 have HL:=dM (j_ T)
 have aj:T.size≤9223372036854775807:=by omega
 have HD:=dM O
 clear hT aa hN hF O W hX
 go_enter func211,ntmps211
 go_wp2_with(go_at_call 209;refine R.out.mono ?_;rintro e w' ⟨rfl,rfl⟩)
 go_loop [2,15] (fun n i=> ∃k v:Nat,k≤T.size∧i= .int .i64 (k:Int)∧n= .int .i64 (-(v:Int))∧v≤9223372036854775808∧v=mY ((a_ T).take k)) (fun _ i=>T.size-(intOf i).toNat)
 case atStart=>exact⟨0,0,by omega,rfl,rfl,by omega,rfl⟩
 case round=>
  obtain⟨k,v,hk,rfl,rfl,hv,V⟩:=hrel
  have Q:=dM V
  clear V
  by_cases Z:k<T.size
  ·have HG:=dM (o_ T k Z)
   have M:k<(a_ T).length:=by rw[HL.out];exact Z
   have ae:=HD.out.at k M
   have U:=dM (B1 M)
   have L:=LB (a_ T) (k+1)
   rw[U.out,←Q.out]at L
   obtain⟨d,I⟩: ∃d:Nat,(a_ T).getD k 0=48+(d:Int):=⟨((a_ T).getD k 0-48).toNat,by omega⟩
   rw[I,show(48+(d:Int)-48).toNat=d by omega]at L
   have ag:Hid (mY ((a_ T).take (k+1))=v*10+d):=dM (by rw[U.out,I,←Q.out];omega)
   have hc:((T[k]'Z).toNat:Int)=48+(d:Int):=by rw[←HG.out];exact I
   have ao:d≤9:=by omega
   have ht:=B0 (d:Int) (by omega) (by omega)
   have af:=dM L
   have ak:(48+(d:Int))-48=(d:Int):=by omega
   clear I ae M U L
   by_cases ad:v*10+d≤9223372036854775808
   ·have am: ¬(-(v:Int))< -((9223372036854775808-(d:Int))/10):=by omega
    go_wp2
    go_round
    case rel=>exact⟨k+1,v*10+d,by omega,by go_num,by congr 1;omega,ad,ag.out.symm⟩
    case measure=>simp[intOf];omega
   ·have ah:(-(v:Int))< -((9223372036854775808-(d:Int))/10):=by omega
    have q:Hid (F=false):=dM (by
     rw[E.out,B.out,fz]
     have:=af.out
     split<;>omega)
    go_wp2
    go_ret2
    rw[G.out.2 q.out,q.out]
    exact⟨rfl,rfl⟩
  ·obtain rfl:k=T.size:=by omega
   have ab:Hid (v=mY (a_ T)):=dM (by rw[Q.out,eo (by rw[HL.out];exact dQ _)])
   cases D with
   |true=>
    have q:Hid (F=true∧N= -(v:Int)):=dM (by
     have h:=B.out
     rw[dP rfl,←ab.out]at h
     exact⟨by rw[E.out,eb];omega,h⟩)
    go_wp2
    go_ret2
    rw[G.out.1 q.out.1,q.out.1,q.out.2]
    exact⟨rfl,rfl⟩
   |false=>
    have h:=B.out
    rw[dN (by decide),←ab.out]at h
    by_cases Y:v=9223372036854775808
    ·have q:Hid (F=false):=dM (by rw[E.out,fz];omega)
     have hb:((-(v:Int))== -9223372036854775808)=true:=by rw[gm];omega
     clear h Y
     go_wp2
     go_ret2
     rw[G.out.2 q.out,q.out]
     exact⟨rfl,rfl⟩
    ·have q:Hid (F=true∧N=(v:Int)):=dM (by exact⟨by rw[E.out,eb];omega,h⟩)
     have hb:((-(v:Int))== -9223372036854775808)=false:=by rw[dY];omega
     have ai:(v:Int)≤9223372036854775807:=by omega
     clear h Y
     go_wp2
     go_ret2
     rw[G.out.1 q.out.1,q.out.1,q.out.2]
     exact⟨rfl,rfl⟩
def pC (d:Int):Int:=if d<10 then 48+d else 87+d
def oZ (c:Int):List Int:=if c<32 then[92,117,48,48,pC (c/16),pC (c%16)]else if c=34∨c=92 then[92,c]else[c]
def ph (l:List Int):Nat→List Int
 |0=>[34]
 |k+1=>ph l k++oZ (l.getD k 0)
def pX (l:List Int):List Int:=ph l l.length++[34]
theorem Cu (c:Int):(oZ c).length≤6:=by
 unfold oZ;split
 ·simp
 ·split<;>simp
theorem uh (l:List Int): ∀k,(ph l k).length≤6*k+1
 |0=>by simp[ph]
 |k+1=>by
  have:=uh l k
  have:=Cu (l.getD k 0)
  rw[ph,dS];omega
theorem FO:(prog.info? 5).map (fun i=>(i.zero,i.size,i.bytes))=some (some (.int .u8 0),1,1):=by kernel_rfl
theorem Db: ∀i:Fin 16,(((⟨#[48,49,50,51,52,53,54,55,56,57,97,98,99,100,101,102]⟩:ByteArray)[i.val]'(i.isLt)).toNat:Int)=pC (i.val:Int):=by decide
theorem uR (d:Int) (h0:0≤d) (h1:d<16):(((⟨#[48,49,50,51,52,53,54,55,56,57,97,98,99,100,101,102]⟩:ByteArray)[d.toNat]'(by show _<16;omega)).toNat:Int)=pC d:=by
 have:=Db ⟨d.toNat,by omega⟩
 rw[show(((⟨d.toNat,by omega⟩:Fin 16).val:Nat):Int)=d from by show((d.toNat:Nat):Int)=d;omega]at this
 exact this
theorem Ay (x y:Int):bits .or .u32 x y=bits .or .u32 y x:=by
 unfold bits
 simp only[BitVec.or_comm]
theorem Hq (x:Int) (k:Nat) (w:World) (B:0≤x) (q:x<4294967296) (E:1≤k) (D:k≤31):
  Calls prog 142 #[.int .u32 x,.int .u64 (k:Int)] w fun e w'=>e= .returned (.int .u32 (ol x k))∧w=w':=by
 go_enter func142,ntmps142
 go_wp2
 go_ret
 refine⟨?_,rfl⟩
 rw[ol,Ay]
 rfl
theorem rV (w:World):
  Calls prog 141 #[] w fun e w'=> ∃g,e= .returned (.slice (some ⟨g,0,none⟩) 64 64)∧w.heap.size≤g∧Blk w' g 124 (c_ .u32 rootsL)∧w.grownBy w' none:=by
 go_enter func141,ntmps141
 go_wp2_with(refine wpList_buildFlat rfl _ 124 64 _ rfl .u32 rootsL jW Hs (by kernel_rfl) rfl (by decide) (by decide) (by kernel_rfl) ?_;try go_frame)
 go_ret
 exact⟨w.heap.size,rfl,dQ _,eC w _,dO w _ none⟩
theorem GG:(prog.info? 124).map (fun i=>(i.zero,i.size,i.bytes))=some (some (.int .u32 0),1,4):=by kernel_rfl
theorem BV (b:List Int) (t:Nat): ∀i,0≤qn b t i∧qn b t i<4294967296
 |0=>by rw[qn];omega
 |i+1=>by rw[qn];omega
theorem K6 (b:List Int): ∀n i,0≤(oB b n).getD i 0∧(oB b n).getD i 0<4294967296
 |0,i=>by simp[oB]
 |n+1,i=>by
  rw[oB,dR]
  by_cases h:i<n
  ·rw[fP (by rw[mW];exact h),←dR];exact K6 b n i
  ·by_cases B:i=n
   ·subst B
    rw[ez (by rw[mW];omega),mW,hZ]
    show 0≤(if i<16 then qn b i 4 else yI (oB b i) i)∧_<_
    by_cases q:i<16
    ·simp only[iF,gO,dP q];exact BV b i 4
    ·simp only[iF,gO,dN q];exact ux _ _
   ·rw[fJ (by simp;omega)];simp
theorem J6 {w:World} {a:Addr} {v:Value} (h:w.cell? a=some v):a.block<w.heap.size:=by
 rcases eX a.block w.heap.size with h'|h'
 ·exact h'
 ·simp[World.cell?,jY h']at h
theorem yW (W s:List Int) (D:s.length=8) (B: ∀i,0≤s.getD i 0∧s.getD i 0<4294967296): ∀k,(pg W s k).length=8∧ ∀i,0≤(pg W s k).getD i 0∧(pg W s k).getD i 0<4294967296
 |0=>⟨D,B⟩
 |k+1=>by
  obtain⟨L,q⟩:=yW W s D B k
  rw[pg]
  obtain⟨a,b,c,d,e,f,g,h,M⟩:=FQ _ L
  rw[M]at q⊢
  refine⟨rfl,fun i=> ?_⟩
  have h0:=q 0;have h1:=q 1;have I:=q 2;have O:=q 3;have G:=q 4;have F:=q 5;have E:=q 6;have N:=q 7
  simp only[eA,fy]at h0 h1 I O G F E N
  simp only[Ht]
  match i with
  |0=>simp only[eA];omega
  |1=>exact h0
  |2=>exact h1
  |3=>exact I
  |4=>simp only[eA,fy];omega
  |5=>exact G
  |6=>exact F
  |7=>exact E
  |i+8=>simp
theorem xn (s b:List Int) (U cS:Nat) (bs:ByteArray) (w:World) (hs:s.length=8) (aS: ∀i,0≤s.getD i 0∧s.getD i 0<4294967296) (bb:bs.size=64) (hb: ∀i (h:i<bs.size),((bs[i]'h).toNat:Int)=b.getD i 0) (bc:Bytes b)
  (hS: ∀j v,(c_ .u32 s)[j]? =some v→w.cell? ⟨U,j,none⟩=some v) (a8:U<w.heap.size):
  Calls prog 107 #[.slice (some ⟨U,0,none⟩) 8 cS,.string bs] w fun e w'=> ∃g c,e= .returned (.slice (some ⟨g,0,none⟩) 8 c)∧w.heap.size≤g∧(∀j v,(c_ .u32 (nI s b))[j]? =some v→w'.cell? ⟨g,j,none⟩=some v)∧Below w.heap.size w w':=by
 have HS:=dM hs
 have bC:=dM aS
 have cC:=dM bb
 have HB:=dM hb
 have bN:=dM bc
 have bD:=dM hS
 clear hs aS bb hb bc hS
 go_enter func107,ntmps107
 go_wp2_with(first
  |(go_at_call 141;refine(rV _).mono ?_;rintro e N ⟨gK,rfl,ba,aI,a6⟩;have aK:=(dU _ w).grown a6 (dQ _) (by simp);clear a6))
 obtain⟨i0,aw,ar,aq,ap⟩:=gw GG
 obtain⟨B,aJ⟩:=yaa N.heap.size
 have ah:N.ownsRow B 124 1 (.slice none 0 0) 0 []:=⟨by decide,Or.inl ⟨rfl,rfl⟩⟩
 have bf:Below B N N:=dU _ _
 have ao:=dM aJ
 have bL:=dM aI
 have ba:gK<B:=by rw[aJ];exact aI.lt
 clear aJ aI
 go_loopw[6,7] (fun v i wr=> ∃k:Nat,k≤64∧i= .int .i64 k∧wr.ownsRow B 124 1 v k (c_ .u32 (oB b k))∧Below B N wr) (fun _ i _=>64-(intOf i).toNat)
 case atStart=>exact⟨0,by omega,rfl,ah,bf⟩
 case round=>
  clear ah bf
  obtain⟨k,hk,rfl,G,D⟩:=hrel
  by_cases cF:k<64
  ·by_cases bg:k<16
   ·have aa:=dM G
    have Y:=dM D
    clear G D
    go_wp2_with fail
    rw[show decide ((k:Int)<64)=true from ec (by omega),show decide ((k:Int)<16)=true from ec (by omega)]
    go_loopw[8,9] (fun x i bP=> ∃j:Nat,j≤4∧x= .int .u32 (qn b k j)∧i= .int .i64 j∧bP=wr) (fun _ i _=>4-(intOf i).toNat)
    case atStart=>exact⟨0,by omega,rfl,rfl,rfl⟩
    case round=>
     obtain⟨j,hj,rfl,rfl,rfl⟩:=hrel
     by_cases cG:j<4
     ·have cJ:=cC.out
      have gx:=HB.out (4*k+j) (by omega)
      have gy:=bN.out (4*k+j)
      have bA:Hid (∀y,y=b.getD (4*k+j) 0→qn b k (j+1)=(qn b k j*256+y)%4294967296):=dM (fun y hy=>by rw[qn,hy])
      obtain⟨y,hy⟩:=yaa (b.getD (4*k+j) 0)
      rw[←hy]at gx gy
      have HY:=dM hy
      clear hy
      obtain⟨z,hz⟩:=yaa (qn b k j)
      rw[←hz]
      rw[←hz]at bA
      clear hz
      go_wp2_with fail
      go_roundw
      case rel=>
       refine⟨j+1,by omega,?_,by go_num,trivial⟩
       rw[bA.out y HY.out]
       exact eH (Value.int .u32) (by omega)
      case measure=>simp[intOf];omega
     ·have b7:j=4:=by omega
      subst b7
      have hB:B≤wr.heap.size:=by have:=Y.out.size;rw[←ao.out]at this;exact this
      have V:Hid (∀_:Unit,c_ .u32 (oB b k)++[.int .u32 (qn b k 4)]=c_ .u32 (oB b (k+1))):=dM (fun _=>by
       rw[oB,dP bg,vX];rfl)
      have aA:Hid (Below B N (wr.alloc (.cells #[.int .u32 (qn b k 4)] 124))):=dM (Y.out.alloc hB _)
      obtain⟨x,Z⟩:=yaa (qn b k 4)
      rw[←Z]at V aA⊢
      clear Z
      go_wp2_with(first
       |(at_builtin;refine fm _ rfl (.tmp 78) (.tmp 80) 166 rfl B 124 i0 (.int .u32 0) 1 4 jW aw ar aq ap rfl (by decide) _ k _ rfl (aa.out.alloc _) ⟨wr.heap.size,0,none⟩ 1 1 [.int .u32 x] rfl rfl ?c1 ?c2 ?c3 ?c4 ?c5 ?_))
      case c1=>exact fR _ _ _
      case c2=>intro u hu;rw[eh.1 hu];rfl
      case c3=>unfold maxLen;omega
      case c4=>omega
      case c5=>simp;omega
      intro v' w' ai aj _
      have HW:Hid (w'.ownsRow B 124 1 v' (k+1) (c_ .u32 (oB b (k+1)))∧Below B N w'):=dM ⟨by rw[←V.out ()];exact ai,aA.out.grown aj (by simp;omega) (rF aa.out)⟩
      clear ai aj
      go_wp2_with fail
      go_roundw
      case rel=>exact⟨k+1,by omega,by go_num,HW.out.1,HW.out.2⟩
      case measure=>simp[intOf];omega
   ·obtain⟨g,F,rfl⟩: ∃g F,u6= .slice (some ⟨g,0,none⟩) k F:=by
     rcases G.2 with⟨_,h0⟩|⟨g,F,aL,h0,_⟩
     ·omega
     ·exact⟨g,F,h0⟩
    have ak: ∀i,i<k→wr.cell? ⟨g,i,none⟩=some (.int .u32 ((oB b k).getD i 0)):=fun i hi=>by
     rw[G.cellAt i (by omega)];exact pf .u32 (oB b k) i (by rw[mW];exact hi)
    have gp:=ak (k-2) (by omega)
    have gq:=ak (k-15) (by omega)
    have gr:=ak (k-7) (by omega)
    have gs:=ak (k-16) (by omega)
    have aa:=dM G
    have Y:=dM D
    clear G D ak
    have bd: ∀i,i<k→0≤(oB b k).getD i 0∧(oB b k).getD i 0<4294967296:=fun i hi=>K6 b k i
    obtain⟨aG,aF⟩:=bd (k-2) (by omega)
    obtain⟨aE,aD⟩:=bd (k-15) (by omega)
    obtain⟨b5,b4⟩:=bd (k-7) (by omega)
    obtain⟨b3,b2⟩:=bd (k-16) (by omega)
    clear bd
    have V:Hid (c_ .u32 (oB b k)++[.int .u32 (yI (oB b k) k)]=c_ .u32 (oB b (k+1))):=dM (by
     rw[oB,dN bg,vX];rfl)
    have aV:yI (oB b k) k=(tQ ((oB b k).getD (k-2) 0)+(oB b k).getD (k-7) 0+tR ((oB b k).getD (k-15) 0)+(oB b k).getD (k-16) 0)%4294967296:=rfl
    rw[aV]at V
    obtain⟨p,hp⟩: ∃x,x=(oB b k).getD (k-2) 0:=⟨_,rfl⟩
    obtain⟨q,hq⟩: ∃x,x=(oB b k).getD (k-15) 0:=⟨_,rfl⟩
    obtain⟨r,hr⟩: ∃x,x=(oB b k).getD (k-7) 0:=⟨_,rfl⟩
    obtain⟨v,hv⟩: ∃x,x=(oB b k).getD (k-16) 0:=⟨_,rfl⟩
    rw[←hp]at aG aF gp V
    rw[←hq]at aE aD gq V
    rw[←hr]at b5 b4 gr V
    rw[←hv]at b3 b2 gs V
    clear hp hq hr hv aV
    have bp: ∀w,Calls prog 142 #[.int .u32 p,.int .u64 17] w (fun e w'=>e= .returned (.int .u32 (ol p 17))∧w=w'):=fun w=>Hq p 17 w aG aF (by omega) (by omega)
    have bo: ∀w,Calls prog 142 #[.int .u32 p,.int .u64 19] w (fun e w'=>e= .returned (.int .u32 (ol p 19))∧w=w'):=fun w=>Hq p 19 w aG aF (by omega) (by omega)
    have bm: ∀w,Calls prog 142 #[.int .u32 q,.int .u64 7] w (fun e w'=>e= .returned (.int .u32 (ol q 7))∧w=w'):=fun w=>Hq q 7 w aE aD (by omega) (by omega)
    have bn: ∀w,Calls prog 142 #[.int .u32 q,.int .u64 18] w (fun e w'=>e= .returned (.int .u32 (ol q 18))∧w=w'):=fun w=>Hq q 18 w aE aD (by omega) (by omega)
    have bk:=fun w=>(bp w).mono fun _ _ (I:_∧_)=>(⟨I.1,I.2.symm⟩:_∧_)
    have bj:=fun w=>(bo w).mono fun _ _ (I:_∧_)=>(⟨I.1,I.2.symm⟩:_∧_)
    have bh:=fun w=>(bm w).mono fun _ _ (I:_∧_)=>(⟨I.1,I.2.symm⟩:_∧_)
    have bi:=fun w=>(bn w).mono fun _ _ (I:_∧_)=>(⟨I.1,I.2.symm⟩:_∧_)
    go_wp2_with fail
    go_quiet ((go_at_call 142;first|(with_reducible exact eG (bk _))|(with_reducible exact eG (bj _))|(with_reducible exact eG (bh _))|(with_reducible exact eG (bi _))))
    clear bp bo bm bn bk bj bh bi gp gq gr gs
    have ag:Hid ((wr.drewN nq).ownsRow B 124 1 (.slice (some ⟨g,0,none⟩) k F) k (c_ .u32 (oB b k))):=dM aa.out
    have bM:Hid (Below B N (wr.drewN nq)):=dM (rG Y.out nq)
    clear aa Y
    generalize wr.drewN nq=O at*
    have hB:B≤O.heap.size:=by have:=bM.out.size;rw[←ao.out]at this;exact this
    have aQ:(((bits .xor .u32 (bits .xor .u32 (ol p 17) (ol p 19)) (p/1024)+r+bits .xor .u32 (bits .xor .u32 (ol q 7) (ol q 18)) (q/8))%4294967296+v)%4294967296)=(tQ p+r+tR q+v)%4294967296:=by rw[tQ,tR];omega
    rw[aQ]
    clear aQ
    obtain⟨x,Z⟩:=yaa ((tQ p+r+tR q+v)%4294967296)
    rw[←Z]at V⊢
    clear Z
    have aA:Hid (Below B N (O.alloc (.cells #[.int .u32 x] 124))):=dM (bM.out.alloc hB _)
    go_wp2_with(first
     |(at_builtin;refine fm _ rfl (.tmp 78) (.tmp 80) 166 rfl B 124 i0 (.int .u32 0) 1 4 jW aw ar aq ap rfl (by decide) _ k _ rfl (ag.out.alloc _) ⟨O.heap.size,0,none⟩ 1 1 [.int .u32 x] rfl rfl ?c1 ?c2 ?c3 ?c4 ?c5 ?_))
    case c1=>exact fR _ _ _
    case c2=>intro u hu;rw[eh.1 hu];rfl
    case c3=>unfold maxLen;omega
    case c4=>omega
    case c5=>simp;omega
    intro v' w' ai aj _
    have HW:Hid (w'.ownsRow B 124 1 v' (k+1) (c_ .u32 (oB b (k+1)))∧Below B N w'):=dM ⟨by rw[←V.out];exact ai,aA.out.grown aj (by simp;omega) (rF ag.out)⟩
    clear ai aj
    go_wp2_with fail
    go_roundw
    case rel=>exact⟨k+1,by omega,by go_num,HW.out.1,HW.out.2⟩
    case measure=>simp[intOf];omega
  ·have av:k=64:=by omega
   subst av
   obtain⟨gW,cN,rfl⟩: ∃g F,u6= .slice (some ⟨g,0,none⟩) 64 F:=by
    rcases G.2 with⟨_,h0⟩|⟨g,F,aL,h0,_⟩
    ·omega
    ·exact⟨g,F,h0⟩
   have aH:=G.lt gW rfl
   have cK:w.heap.size≤B:=by rw[ao.out];exact aK.size
   have cL:B≤wr.heap.size:=by have:=D.size;rw[←ao.out]at this;exact this
   have aa:=dM G
   have Y:=dM D
   have aT:(wr.alloc (.cells #[] 124)).ownsRow wr.heap.size 124 1 (.slice (some ⟨wr.heap.size,0,none⟩) 0 0) 0 []:=iL wr #[] 0 (dQ _) (by unfold maxLen;omega) rfl
   have ag:=dM aT
   clear G D aT
   have az:Hid (Below w.heap.size w wr):=dM (aK.trans ((by rw[←ao.out];exact Y.out:Below N.heap.size N wr).mono aK.size))
   go_wp2_with(first
    |(at_builtin;refine fm _ rfl (.tmp 82) (.tmp 83) 166 rfl wr.heap.size 124 i0 (.int .u32 0) 1 4 jW aw ar aq ap rfl (by decide) _ 0 _ rfl ag.out ⟨U,0,none⟩ 8 cS (c_ .u32 s) rfl ?c6 ?c7 ?c8 ?c9 ?cv ?cu ?_))
   case c6=>rw[b_,HS.out]
   case c7=>
    intro j u hu
    rw[eW,eL]
    exact((az.out.alloc az.out.size _).cell (p:=⟨U,j,none⟩) a8).trans (bD.out j u hu)
   case c8=>exact oW _ _
   case c9=>unfold maxLen;omega
   case cv=>omega
   case cu=>simp
   intro v' E au aY _
   obtain⟨g0,c0,rfl⟩: ∃g F,v'= .slice (some ⟨g,0,none⟩) 8 F:=by
    rcases au.2 with⟨_,h0⟩|⟨g,F,aL,h0,_⟩
    ·omega
    ·exact⟨g,F,h0⟩
   have ae:Below wr.heap.size wr E:=(nO wr _).grown aY (by simp) (rF ag.out)
   have bO:Hid (Below w.heap.size w E):=yab az ae
   have bH:Hid (∀j,j<8→E.cell? ⟨g0,j,none⟩=some (.int .u32 (s.getD j 0))):=dM fun j hj=>by
    rw[au.cellAt j (by omega)];exact pf .u32 s j (by rw[HS.out];exact hj)
   have ci:g0<E.heap.size:=(au.lt g0 rfl).2
   have bB:Hid (∀i,i<64→E.cell? ⟨gW,i,none⟩=some (.int .u32 ((oB b 64).getD i 0))):=dM fun i hi=>by
    rw[ae.cell (p:=⟨gW,i,none⟩) aH.2,aa.out.cellAt i (by omega)];exact pf .u32 (oB b 64) i (by rw[mW];exact hi)
   have b8:gW<E.heap.size:=dX aH.2 ae.size
   have cA:Hid (∀i,i<64→E.cell? ⟨gK,i,none⟩=some (.int .u32 (rootsL.getD i 0))):=dM fun i hi=>by
    have cj:Blk E gK 124 (c_ .u32 rootsL):=(bL.out.below Y.out ba).below ae (by omega)
    rw[cj.cell];exact pf .u32 rootsL i (by rw[Ly];exact hi)
   have b9:gK<E.heap.size:=by have:=ae.size;omega
   obtain⟨W,hW⟩:=yaa (oB b 64)
   have cP:Hid (∀i,0≤W.getD i 0∧W.getD i 0<4294967296):=dM fun i=>by rw[hW];exact K6 b 64 i
   have cy:=dM hW
   rw[←hW]at bB
   clear au aY ae aa Y ag aH hW bL
   go_wp2_with fail
   go_loopw[12,13] (fun v i O=> ∃(k gk ck:Nat),k≤64∧i= .int .i64 k∧v= .slice (some ⟨gk,0,none⟩) 8 ck∧gk<O.heap.size∧(∀j,j<8→O.cell? ⟨gk,j,none⟩=some (.int .u32 ((pg W s k).getD j 0)))∧Below E.heap.size E O) (fun _ i _=>64-(intOf i).toNat)
   case atStart=>exact⟨0,g0,c0,by omega,rfl,rfl,ci,bH.out,dU _ _⟩
   case round=>
    clear bH
    obtain⟨k,gk,ck,hk,rfl,rfl,ay,L,D⟩:=hrel
    have aM:=dM D
    obtain⟨af,M⟩:=yW W s HS.out bC.out k
    by_cases av:k<64
    ·have ab:Hid (pg W s (k+1)=Ht (pg W s k) (rootsL.getD k 0) (W.getD k 0)):=dM rfl
     obtain⟨R,hR⟩:=yaa (pg W s k)
     rw[←hR]at af M L ab
     clear hR
     obtain⟨a,b',c,d,e,f,g,h',rfl⟩:=FQ R af
     have ca:=L 0 (by omega);have cb:=L 1 (by omega);have cc:=L 2 (by omega);have cd:=L 3 (by omega)
     have ce:=L 4 (by omega);have cf:=L 5 (by omega);have cg:=L 6 (by omega);have ch:=L 7 (by omega)
     have da:=M 0;have db:=M 1;have dc:=M 2;have dd:=M 3;have de:=M 4;have df:=M 5;have dg:=M 6;have dh:=M 7
     simp only[eA,fy]at ca cb cc cd ce cf cg ch da db dc dd de df dg dh
     have bq:=(D.cell (p:=⟨gK,k,none⟩) b9).trans (cA.out k av)
     have bl:=(D.cell (p:=⟨gW,k,none⟩) b8).trans (bB.out k av)
     obtain⟨wt,aO⟩: ∃x,x=W.getD k 0:=⟨_,rfl⟩
     obtain⟨kt,aW⟩: ∃x,x=rootsL.getD k 0:=⟨_,rfl⟩
     rw[←aO]at bl ab
     rw[←aW]at bq ab
     have cQ:Hid ([a,b',c,d,e,f,g,h'].length=8):=dM af
     clear L M af D aO aW
     obtain⟨a0,a1⟩:=da;obtain⟨e0,e1⟩:=de
     obtain⟨b0,b1⟩:=db;obtain⟨cO,c1⟩:=dc;obtain⟨d0,d1⟩:=dd;obtain⟨f0,f1⟩:=df;obtain⟨cM,g1⟩:=dg;obtain⟨h0,h1⟩:=dh
     have te: ∀n:Nat,1≤n→n≤31→ ∀W,Calls prog 142 #[.int .u32 e,.int .u64 (n:Int)] W (fun v w'=>v= .returned (.int .u32 (ol e n))∧w'=W):=fun n h1 h2 W=>(Hq e n W e0 e1 h1 h2).mono fun _ _ I=>⟨I.1,I.2.symm⟩
     have ta: ∀n:Nat,1≤n→n≤31→ ∀W,Calls prog 142 #[.int .u32 a,.int .u64 (n:Int)] W (fun v w'=>v= .returned (.int .u32 (ol a n))∧w'=W):=fun n h1 h2 W=>(Hq a n W a0 a1 h1 h2).mono fun _ _ I=>⟨I.1,I.2.symm⟩
     have bR:=dM (te 6 (by omega) (by omega));have bT:=dM (te 11 (by omega) (by omega));have bS:=dM (te 25 (by omega) (by omega))
     have bV:=dM (ta 2 (by omega) (by omega));have bW:=dM (ta 13 (by omega) (by omega));have bU:=dM (ta 22 (by omega) (by omega))
     clear te ta
     go_wp2_with fail
     go_quiet ((go_at_call 142;first|(with_reducible exact eG (bR.out _))|(with_reducible exact eG (bT.out _))|(with_reducible exact eG (bS.out _))))
     go_wp2_with fail
     have bz:(wr.drewN nq).cell? ⟨gk,0,none⟩=some (.int .u32 a):=ca
     have bx:(wr.drewN nq).cell? ⟨gk,1,none⟩=some (.int .u32 b'):=cb
     have bw:(wr.drewN nq).cell? ⟨gk,2,none⟩=some (.int .u32 c):=cc
     have bv:(wr.drewN nq).cell? ⟨gk,3,none⟩=some (.int .u32 d):=cd
     have bu:(wr.drewN nq).cell? ⟨gk,4,none⟩=some (.int .u32 e):=ce
     have bt:(wr.drewN nq).cell? ⟨gk,5,none⟩=some (.int .u32 f):=cf
     have br:(wr.drewN nq).cell? ⟨gk,6,none⟩=some (.int .u32 g):=cg
     have bK:Hid (Below E.heap.size E (wr.drewN nq)):=dM (rG aM.out nq)
     clear ca cb cc cd ce cf cg ch bq bl aM ay
     generalize wr.drewN nq=X at*
     go_quiet ((go_at_call 142;first|(with_reducible exact eG (bV.out _))|(with_reducible exact eG (bW.out _))|(with_reducible exact eG (bU.out _))))
     go_wp2_with fail
     have ct:(X.drewN nq).cell? ⟨gk,0,none⟩=some (.int .u32 a):=bz
     have cr:(X.drewN nq).cell? ⟨gk,1,none⟩=some (.int .u32 b'):=bx
     have cq:(X.drewN nq).cell? ⟨gk,2,none⟩=some (.int .u32 c):=bw
     have cp:(X.drewN nq).cell? ⟨gk,3,none⟩=some (.int .u32 d):=bv
     have co:(X.drewN nq).cell? ⟨gk,4,none⟩=some (.int .u32 e):=bu
     have cn:(X.drewN nq).cell? ⟨gk,5,none⟩=some (.int .u32 f):=bt
     have cm:(X.drewN nq).cell? ⟨gk,6,none⟩=some (.int .u32 g):=br
     have bJ:Hid (Below E.heap.size E (X.drewN nq)):=dM (rG bK.out nq)
     clear bz bx bw bv bu bt br bK
     generalize X.drewN nq=aB at*
     go_still_tail 26,(by kernel_rfl)
     change wpList _ _ _ _ _ aB.drew
     have bI:Hid (Below E.heap.size E aB.drew):=dM bJ.out.drew
     clear ct cr cq cp co cn cm bJ
     generalize aB.drew=bQ at*
     go_wp2_with fail
     go_roundw
     case rel=>
      refine⟨k+1,_,8,by omega,by go_num,rfl,by simp,fun j hj=> ?_,bI.out.alloc bI.out.size _⟩
      rw[ab.out,ki _ _ _ _ _ _ (eC bQ _)]
      match j,hj with
      |0,_=>exact eH (fun z=>some (Value.int .u32 z)) (by simp only[Ht,Fu,eA,show IntKind.u32.max=4294967295 from rfl];omega)
      |1,_=>rfl
      |2,_=>rfl
      |3,_=>rfl
      |4,_=>exact eH (fun z=>some (Value.int .u32 z)) (by simp only[Ht,Fu,eA,fy,show IntKind.u32.max=4294967295 from rfl];omega)
      |5,_=>rfl
      |6,_=>rfl
      |7,_=>rfl
     case measure=>simp[intOf];omega
    ·obtain rfl:k=64:=by omega
     rw[show(((64:Nat)):Int)=64 from rfl]
     have bF:Hid (nI s b=pB s (pg W s 64) 8):=dM (by rw[cy.out];exact CQ s b HS.out bN.out)
     obtain⟨R,hR⟩:=yaa (pg W s 64)
     rw[←hR]at af M L bF
     have bG:=dM L
     have cz:=dM M
     have bZ:E.heap.size≤wr.heap.size:=D.size
     have aR:w.heap.size≤E.heap.size:=bO.out.size
     have ad:Hid (Below w.heap.size w wr):=dM (bO.out.trans (D.mono aR))
     obtain⟨Q,aP⟩: ∃x,x=wr:=⟨_,rfl⟩
     rw[←aP]at ad bG ay⊢
     have ah:Q.ownsRow Q.heap.size 124 1 (.slice none 0 0) 0 []:=ft _ _ _ _
     have bE:=dM ah
     clear hR L M D aP ah aM af bZ aR
     go_wp2_with fail
     go_loopw[16,17] (fun v i O=> ∃j:Nat,j≤8∧i= .int .i64 j∧O.ownsRow Q.heap.size 124 1 v j (c_ .u32 (pB s R j))∧Below Q.heap.size Q O) (fun _ i _=>8-(intOf i).toNat)
     case atStart=>exact⟨0,by omega,rfl,bE.out,dU _ _⟩
     case round=>
      clear bE
      obtain⟨j,hj,rfl,G,D⟩:=hrel
      have am:=dM G
      have aN:=dM D
      by_cases aX:j<8
      ·have c1:=(D.cell (p:=⟨gk,j,none⟩) ay).trans (bG.out j aX)
       have c2:=((ad.out.trans (D.mono ad.out.size)).cell (p:=⟨U,j,none⟩) a8).trans (bD.out j _ (pf .u32 s j (by rw[HS.out];exact aX)))
       obtain⟨r0,r1⟩:=cz.out j
       obtain⟨s0,s1⟩:=bC.out j
       have ab:Hid (c_ .u32 (pB s R j)++[.int .u32 ((R.getD j 0+s.getD j 0)%4294967296)]=c_ .u32 (pB s R (j+1))):=dM (by rw[pB,vX];rfl)
       obtain⟨x,Z⟩:=yaa (R.getD j 0)
       obtain⟨y,hy⟩:=yaa (s.getD j 0)
       rw[←Z]at c1 r0 r1 ab
       rw[←hy]at c2 s0 s1 ab
       clear G D Z hy
       go_wp2_with fail
       have cx:u16.ownBlock≠some gk:=fun e=>by have:=rF am.out gk e;exact absurd ay (by omega)
       have cw:u16.ownBlock≠some U:=fun e=>by have:=rF am.out U e;have:=ad.out.size;omega
       have bY:Q.heap.size≤wr.heap.size:=aN.out.size
       have cE:gk<wr.heap.size:=J6 c1
       have cD:U<wr.heap.size:=J6 c2
       have cI:(0:Int)≤(j:Int):=by omega
       have cH:(j:Int)<8:=by omega
       have bX:IntKind.u32.wrap (x+y)=(x+y)%4294967296:=ko _
       go_region_held3(fun W=>W.cell? ⟨gk,j,none⟩=some (.int .u32 x)∧W.cell? ⟨U,j,none⟩=some (.int .u32 y))
        (first
         |go_keep
         |(go_split_ands
           refine⟨?_,?_⟩
           ·(rw[ax.cell_far _ (by simp;omega) (mS cx)];assumption)
           ·(rw[ax.cell_far _ (by simp;omega) (mS cw)];assumption)))
        ((refine fX _ (by rfl) _ _ _ (by rfl) Q.heap.size 124 i0 _ 1 4 jW aw ar aq ap rfl (by omega) u16 j (c_ .u32 (pB s R j)) (by rfl) ((am.out.alloc _).drew) ⟨wr.heap.size,0,none⟩ 1 1 [.int .u32 ((x+y)%4294967296)] (by rfl) (by rfl) (eU (cs:= #[.int .u32 ((x+y)%4294967296)]) (t:=124) (fr:=(0,0)) (eC wr _)) (by simp[Value.oneCell']) (by omega) (by unfold maxLen;omega) (by omega) (by simp;omega) (wr.heap.size+1) (by simp) ?_;intro gg F aC aU ax cl b6))
       have aZ:(wr.alloc (.cells #[.int .u32 ((x+y)%4294967296)] 124)).drew.grownBy aC u16.ownBlock:=ax
       have HW:Hid (aC.ownsRow Q.heap.size 124 1 (.slice (some ⟨gg,0,none⟩) (j+1) F) (j+1) (c_ .u32 (pB s R (j+1)))∧Below Q.heap.size Q aC):=dM ⟨by rw[←ab.out];exact aU,(aN.out.alloc bY _).drew.grown aZ (by simp;omega) (rF am.out)⟩
       clear bX aU ax aZ cl b6
       go_wp2_with fail
       go_roundw
       case rel=>exact⟨j+1,by omega,by go_num,HW.out.1,HW.out.2⟩
       case measure=>simp[intOf];omega
      ·obtain rfl:j=8:=by omega
       obtain⟨g8,c8,rfl⟩: ∃g F,u16= .slice (some ⟨g,0,none⟩) 8 F:=by
        rcases G.2 with⟨_,h0⟩|⟨g,F,aL,h0,_⟩
        ·omega
        ·exact⟨g,F,h0⟩
       have a7:=rF G g8 rfl
       have cB:Hid (w.heap.size≤g8∧(∀j v,(c_ .u32 (nI s b))[j]? =some v→wr.cell? ⟨g8,j,none⟩=some v)∧Below w.heap.size w wr):=dM ⟨dV ad.out.size a7,fun j v hv=>by
        rw[bF.out]at hv
        have hj:=(eP.1 hv).1
        rw[b_,nT]at hj
        rw[G.cellAt j (by omega)];exact hv,ad.out.trans (D.mono ad.out.size)⟩
       clear G D am aN a7
       go_wp2_with fail
       go_ret
       exact⟨g8,c8,rfl,cB.out⟩
theorem G9 {w:World} {B e:Nat} {v:Value} {n:Nat} {xs:List Int} (h:w.ownsRow B e 1 v n (c_ .u8 xs)) (D:xs.length=n): ∃A c,v= .slice A n c∧n≤c∧Lies w A xs:=by
 have h0:=h
 rcases h.2 with⟨rfl,rfl⟩|⟨g,G,O,rfl,N,M,E,L,_⟩
 ·exact⟨none,0,rfl,dQ _,fun I=>by omega⟩
 ·refine⟨_,G,rfl,E,fun _=>⟨g,0,rfl,?_,?_,fun j v q=> ?_⟩⟩
  ·have:=(h0.lt g rfl).2;omega
  ·exact(h0.lt g rfl).2
  ·have F:=(eP.1 q).1
   rw[b_,D]at F
   rw[eL,h0.cellAt j (by omega)]
   exact q
def oH (D:List Int):ByteArray:=⟨(D.map fun x=>UInt8.ofNat x.toNat).toArray⟩
theorem D2 {D:List Int} (h:Bytes D):a_ (oH D)=D:=by
 simp only[a_,oH,jV]
 conv=>rhs;rw[←List.map_id D]
 refine jF fun x q=> ?_
 have:=h.mem q
 simp only[Function.comp,id]
 rw[UInt8.toNat_ofNat'];omega
theorem rr (A:Option Addr) (xs:List Int) (n c:Nat) (w:World) (D:xs.length=n) (B:Lies w A xs):
  (convert 46 9 (.slice A n c)).run prog w= .ok (.string (oH xs)) w:=by
 rw[run_convert_bytes_string w _ _ 5 _ _ _ ee fc ew]
 cases A with
 |none=>
  have:xs=[]:=by
   rcases xs with _|⟨x,r⟩
   ·rfl
   ·obtain⟨b,o,h,_⟩:=B (by simp)
    cases h
  subst this
  rfl
 |some ad=>
  have G: ∀j u,(c_ .u8 xs)[j]? =some u→w.cell? (ad.add j)=some u:=fun j u q=>by
   have F:=(eP.1 q).1
   rw[b_]at F
   obtain⟨b,o,h,_,_,I⟩:=B (by omega)
   injection h with h
   subst h
   rw[eW]
   exact I j u q
  have E:(loadCells ad n).run prog w= .ok (c_ .u8 xs).toArray w:=by
   have:=run_loadCells_list (P:=prog) w ad (c_ .u8 xs) G
   rw[b_,D]at this;exact this
  rw[run_bytesToString w _ _ _ xs E,foldl_push_bytes,show ByteArray.empty.data= #[]from rfl,Array.empty_append]
  rfl
theorem Ix (a b:ByteArray):a_ (a++b)=a_ a++a_ b:=by
 simp only[a_,ByteArray.data_append,Array.toList_append,gl]
theorem NX (s:ByteArray) (a b:Nat):a_ (s.extract a b)=((a_ s).take b).drop a:=by
 simp only[a_,ByteArray.data_extract,Array.toList_extract,List.extract_eq_take_drop,j3,List.map_drop,kh]
theorem KZ (s:ByteArray) (k:Nat) (h:k<s.size):((s[k]'h).toNat:Int)=(a_ s).getD k 0:=by
 have q:k<s.data.toList.length:=by simpa using h
 rw[dR,a_,ka,dZ q]
 simp
 rfl
theorem yU (m:Int): ∀k,oI m k=m/2^(8*k)
 |0=>by simp[oI]
 |k+1=>by
  rw[oI,yU m k,Int.ediv_ediv_of_nonneg (by exact Int.pow_nonneg (by decide)),show 8*(k+1)=8*k+8 by omega,Int.pow_add];rfl
theorem Du (m:Int) (t:Nat) (q:t<8):(o6 m).getD t 0=m/2^(8*(7-t))%256:=by
 rw[←yU]
 match t,q with
 |0,_=>rfl
 |1,_=>rfl
 |2,_=>rfl
 |3,_=>rfl
 |4,_=>rfl
 |5,_=>rfl
 |6,_=>rfl
 |7,_=>rfl
theorem E4 (n:Nat):(n+pI n+9)%64=0∧pI n<64:=by
 unfold pI;split<;>omega
theorem xy (n:Nat):Bytes (oO n):= .of_mem fun x q=>by
 simp only[oO,eF,fA,List.mem_replicate,o6,fx,je]at q
 rcases q with rfl|⟨_,rfl⟩|rfl|rfl|rfl|rfl|rfl|rfl|rfl|rfl<;>omega
def o4 (F:List Int):Nat→List Int
 |0=>[]
 |j+1=>o4 F j++[F.getD j 0/16777216,F.getD j 0/65536%256,F.getD j 0/256%256,F.getD j 0%256]
theorem J5 (F:List Int): ∀j,(o4 F j).length=4*j
 |0=>rfl
 |j+1=>by rw[o4,dS,J5 F j];simp;omega
theorem tV (F:List Int): ∀k,k≤8→pQ F k=o4 F k++List.replicate (32-4*k) 0
 |0,_=>rfl
 |k+1,h=>by
  have B:=J5 F k
  have q: ∀(T:List Int) (i:Nat) (x:Int),(o4 F k++T).set (4*k+i) x=o4 F k++T.set i x:=fun T i x=>by
   rw[ir _ _ (by omega),B,show 4*k+i-4*k=i by omega]
  have h0: ∀(T:List Int) (x:Int),(o4 F k++T).set (4*k) x=o4 F k++T.set 0 x:=fun T x=>q T 0 x
  rw[pQ,tV F k (by omega),show 32-4*k=(32-4*(k+1))+1+1+1+1 by omega]
  simp only[List.replicate_succ,h0,q,gt,gR,o4,fw,ff,fs]
theorem Cb (F:List Int):pQ F 8=o4 F 8:=by
 rw[tV F 8 (dQ _)];exact fM _
theorem I3 (l:List Int) (j:Nat):(l.take (64*j+64)).drop (64*j)=(l.drop (64*j)).take 64:=by
 rw[kh];congr 1;omega
theorem Ir (s:ByteArray) (w:World) (hs:s.size≤30000):
  Calls prog 74 #[.string s] w fun e w'=>e= .returned (.string (oH (pq (a_ s))))∧Below w.heap.size w w':=by
 obtain⟨i0,ao,aj,ai,ah⟩:=gw C_
 obtain⟨q,aq⟩: ∃g,g=pI s.size:=⟨_,rfl⟩
 have aK:=E4 s.size
 rw[←aq]at aK
 obtain⟨aL,bu⟩:=aK
 have av:=dM aq
 have aw:=dM aL
 have X:(w.alloc (.cells #[.int .u8 128] 5)).ownsRow w.heap.size 5 1 (.slice (some ⟨w.heap.size,0,none⟩) 1 1) 1 [.int .u8 128]:=iL w #[.int .u8 128] 1 (dQ _) (by unfold maxLen;omega) rfl
 have aV:=dM X
 clear aq X aL
 go_enter func74,ntmps74
 go_wp2_with fail
 go_loopw[4] (fun v wr=> ∃L:Nat,1≤L∧L≤q+1∧wr.ownsRow w.heap.size 5 1 v L (c_ .u8 (128::List.replicate (L-1) 0))∧Below w.heap.size w wr) (fun v _=>match v with| .slice _ m _=>200-m|_=>0)
 case atStart=>exact⟨1,by omega,by omega,aV.out,nO _ _⟩
 case round=>
  clear aV
  obtain⟨L,bA,bz,G,B⟩:=hrel
  obtain⟨g,I,rfl⟩: ∃g I,u4= .slice (some ⟨g,0,none⟩) L I:=by
   rcases G.2 with⟨_,h0⟩|⟨g,I,bi,h0,_⟩
   ·omega
   ·exact⟨g,I,h0⟩
  have N:=dM G
  have E:=dM B
  have ba:w.heap.size≤wr.heap.size:=B.size
  clear G B
  by_cases bf:L<q+1
  ·have hq:(((s.size:Int)+(L:Int)+8)%64!=0)=true:=by rw[kb];have:=aw.out;omega
   have R:Hid (c_ .u8 (128::List.replicate (L-1) 0)++[.int .u8 0]=c_ .u8 (128::List.replicate (L+1-1) 0)):=dM (by
    rw[show L+1-1=(L-1)+1 by omega,List.replicate_succ',←ff,vX];rfl)
   go_wp2_with(first
    |(at_builtin;refine fm _ rfl (.tmp 20) (.tmp 21) 46 rfl w.heap.size 5 i0 (.int .u8 0) 1 1 ee ao aj ai ah rfl (by decide) _ L _ rfl (N.out.alloc _) ⟨wr.heap.size,0,none⟩ 1 1 [.int .u8 0] rfl rfl ?c1 ?c2 ?c3 ?c4 ?c5 ?_))
   case c1=>exact fR _ _ _
   case c2=>intro u V;rw[eh.1 V];rfl
   case c3=>unfold maxLen;omega
   case c4=>omega
   case c5=>simp;omega
   intro v' w' Q Y _
   have O:Hid (w'.ownsRow w.heap.size 5 1 v' (L+1) (c_ .u8 (128::List.replicate (L+1-1) 0))∧Below w.heap.size w w'):=dM ⟨by rw[←R.out];exact Q,(E.out.alloc ba _).grown Y (by simp;omega) (rF N.out)⟩
   obtain⟨g',bB,rfl⟩: ∃g I,v'= .slice (some ⟨g,0,none⟩) (L+1) I:=by
    rcases Q.2 with⟨_,h0⟩|⟨g,I,bi,h0,_⟩
    ·omega
    ·exact⟨g,I,h0⟩
   clear Q Y
   go_wp2_with fail
   go_roundw
   case rel=>exact⟨L+1,by omega,by omega,O.out.1,O.out.2⟩
   case measure=>simp;omega
  ·obtain rfl:L=q+1:=by omega
   have hq:(((s.size:Int)+((q:Int)+1)+8)%64!=0)=false:=by rw[bne_eq_false_iff_eq];have:=aw.out;omega
   have aT:Hid (wr.ownsRow w.heap.size 5 1 (.slice (some ⟨g,0,none⟩) (q+1) I) (q+1) (c_ .u8 (128::List.replicate q 0))):=dM N.out
   clear N
   go_wp2_with fail
   go_loopw[4,5] (fun v i M=> ∃t:Nat,t≤8∧i= .int .i64 (7-(t:Int))∧M.ownsRow w.heap.size 5 1 v (q+1+t) (c_ .u8 ((128::List.replicate q 0)++(o6 (s.size*8)).take t))∧Below w.heap.size w M) (fun _ i _=>(intOf i+1).toNat)
   case atStart=>exact⟨0,by omega,rfl,by rw[jG,fM];exact aT.out,E.out⟩
   case round=>
    clear aT E
    obtain⟨t,ht,rfl,G,B⟩:=hrel
    have ae:=dM G
    have aA:=dM B
    have aD:w.heap.size≤wr.heap.size:=B.size
    clear G B
    by_cases ak:t<8
    ·have bs:(0:Int)≤7-(t:Int):=by omega
     have R:Hid (c_ .u8 ((128::List.replicate q 0)++(o6 (s.size*8)).take t)++[.int .u8 ((s.size:Int)*8/2^(8*(7-t))%256)]=c_ .u8 ((128::List.replicate q 0)++(o6 (s.size*8)).take (t+1))):=dM (by
      rw[←Du _ t ak,j8,dZ (show t<(o6 (s.size*8)).length from ak),lV,←fw,vX _ (_++_)]
      simp[c_,List.getD,show t<(o6 (s.size*8)).length from ak])
     go_wp2_with(first
      |(at_builtin;refine fm _ rfl (.tmp 27) (.tmp 36) 46 rfl w.heap.size 5 i0 (.int .u8 0) 1 1 ee ao aj ai ah rfl (by decide) _ (q+1+t) _ rfl (ae.out.alloc _) ⟨wr.heap.size,0,none⟩ 1 1 [.int .u8 ((s.size:Int)*8/2^(8*(7-t))%256)] rfl rfl ?d1 ?d2 ?d3 ?d4 ?d5 ?_))
     case d1=>exact fR _ _ _
     case d2=>intro u V;rw[eh.1 V];rfl
     case d3=>unfold maxLen;omega
     case d4=>omega
     case d5=>simp;omega
     intro v' w' Q Y _
     have O:Hid (w'.ownsRow w.heap.size 5 1 v' (q+1+(t+1)) (c_ .u8 ((128::List.replicate q 0)++(o6 (s.size*8)).take (t+1)))∧Below w.heap.size w w'):=dM ⟨by rw[←R.out];exact Q,(aA.out.alloc aD _).grown Y (by simp;omega) (rF ae.out)⟩
     clear Q Y
     go_wp2_with fail
     go_roundw
     case rel=>exact⟨t+1,by omega,by rw[show((t+1:Nat):Int)=(t:Int)+1 by omega,show(7:Int)-((t:Int)+1)=7-(t:Int)-1 by omega],O.out.1,O.out.2⟩
     case measure=>simp[intOf];omega
    ·obtain rfl:t=8:=by omega
     rw[show(7:Int)-((8:Nat):Int)= -1 from rfl]
     have am:=ae.out
     have aE:(128::List.replicate q 0)++(o6 (s.size*8)).take 8=oO s.size:=by
      rw[eo (show(o6 (s.size*8)).length≤8 from dQ _),oO,av.out];rfl
     rw[aE]at am
     have aa:(oO s.size).length=q+1+8:=by rw[uG,←av.out]
     obtain⟨A,c,rfl,_,aG⟩:=G9 am aa
     have aN:=rr A (oO s.size) (q+1+8) c wr aa aG
     obtain⟨P,hP⟩:=yaa (oH (oO s.size))
     rw[←hP]at aN
     obtain⟨S,hS⟩: ∃S,s++P=S:=⟨_,rfl⟩
     have aS:Hid (a_ S=a_ s++oO s.size):=dM (by rw[←hS,Ix,hP,D2 (xy _)])
     have ad:S.size=s.size+(q+9):=by rw[←j_,aS.out,dS,j_,aa]
     have bl:Hid (pL (a_ S) (S.size/64)=pW (a_ s)):=dM (by
      have:=yu (a_ s)
      rw[j_,←av.out]at this
      rw[aS.out,ad];exact this)
     have bw:S.size%64=0:=by rw[ad];have:=aw.out;omega
     have bx:S.size≤40000:=by omega
     have bp:s.size+P.size≤9223372036854775807:=by rw[←gL,hS];omega
     have af:Hid (Below w.heap.size w wr):=aA
     have bC:=dM ad
     have a8:=af.out.size
     obtain⟨Z,aC⟩: ∃x,x=wr:=⟨_,rfl⟩
     rw[←aC]at aN af a8⊢
     clear am aE aa aG hP ad ae aA aC aD
     go_wp2_with fail
     go_loopw[6,7] (fun v i M=> ∃(j gk ck:Nat),64*j≤S.size∧i= .int .i64 ((64*j:Nat):Int)∧v= .slice (some ⟨gk,0,none⟩) 8 ck∧gk<M.heap.size∧(∀m u,(c_ .u32 (pL (a_ S) j))[m]? =some u→M.cell? ⟨gk,m,none⟩=some u)∧Below Z.heap.size Z M) (fun _ i _=>S.size-(intOf i).toNat)
     case atStart=>exact⟨0,Z.heap.size,8,by omega,rfl,rfl,by simp,fun m u V=>by
      rw[ki _ _ _ _ _ _ (eC Z _)]
      show(c_ .u32 nX).toArray[m]? =some u
      rw[List.getElem?_toArray];exact V,nO _ _⟩
     case round=>
      obtain⟨j,gk,ck,hj,rfl,rfl,ab,aO,B⟩:=hrel
      have ax:=dM aO
      have E:=dM B
      clear aO B
      obtain⟨a,ha⟩:=yaa (64*j)
      have U:=dM ha
      rw[←ha]at hj⊢
      clear ha
      by_cases bf:a<S.size
      ·have bc:(a:Int)<(S.size:Int):=by omega
       have bv:a+64≤S.size:=by have:=U.out;omega
       have ar:a_ (S.extract a (a+64))=((a_ S).drop (64*j)).take 64:=by rw[NX,U.out,I3]
       have aQ:(S.extract a (a+64)).size=64:=by rw[←j_,ar,ep,eq,j_];have:=U.out;omega
       have bk:=dM (xn (pL (a_ S) j) (((a_ S).drop (64*j)).take 64) gk ck (S.extract a (a+64)) wr (FD _ _) (F4 _ _) aQ (fun i hi=>by rw[KZ,ar]) (((pM S).drop _).take _) ax.out ab)
       clear ar aQ
       go_wp2_with(go_at_call 107;refine bk.out.mono ?_;rintro e w6 ⟨g6,c6,rfl,bt,aP,aR⟩;have H6:=dM (And.intro aP (E.out.trans (aR.mono E.out.size)));clear aP aR)
       have bg:g6<w6.heap.size:=J6 (H6.out.1 0 _ (pf .u32 _ 0 (by rw[zN,FD];decide)))
       go_roundw
       case rel=>exact⟨j+1,g6,c6,by have:=U.out;omega,by rw[show 64*(j+1)=a+64 by have:=U.out;omega];go_num,rfl,bg,H6.out.1,H6.out.2⟩
       case measure=>simp[intOf];omega
      ·have bc: ¬(a:Int)<(S.size:Int):=by omega
       have aI:j=S.size/64:=by have:=U.out;omega
       have ay:Hid (∀m,m<8→wr.cell? ⟨gk,m,none⟩=some (.int .u32 ((pW (a_ s)).getD m 0))):=dM fun m hm=>ax.out m _ (by
        rw[aI,bl.out];exact pf .u32 _ m (by rw[uH];exact hm))
       have az:Hid (Below w.heap.size w wr):=dM (af.out.trans (E.out.mono af.out.size))
       have aW:Hid (pq (a_ s)=o4 (pW (a_ s)) 8):=dM (Cb _)
       have au:=zl (a_ s)
       obtain⟨F,hF⟩:=yaa (pW (a_ s))
       rw[←hF]at ay aW au
       have bn:=dM au
       obtain⟨D,aB⟩: ∃x,x=wr:=⟨_,rfl⟩
       rw[←aB]at ay az ab⊢
       have X:(D.alloc (.cells #[] 5)).ownsRow D.heap.size 5 1 (.slice (some ⟨D.heap.size,0,none⟩) 0 0) 0 []:=iL D #[] 0 (dQ _) (by unfold maxLen;omega) rfl
       have aU:=dM X
       clear aI au hF aB X ax E
       go_wp2_with fail
       go_loopw[8,9] (fun v i M=> ∃m:Nat,m≤8∧i= .int .i64 m∧M.ownsRow D.heap.size 5 1 v (4*m) (c_ .u8 (o4 F m))∧Below D.heap.size D M) (fun _ i _=>8-(intOf i).toNat)
       case atStart=>exact⟨0,by omega,rfl,aU.out,nO _ _⟩
       case round=>
        clear aU
        obtain⟨m,hm,rfl,G,B⟩:=hrel
        have N:=dM G
        have E:=dM B
        by_cases bb:m<8
        ·have c1:=(B.cell (p:=⟨gk,m,none⟩) ab).trans (ay.out m bb)
         obtain⟨x0,x1⟩:=bn.out m
         have R:Hid (c_ .u8 (o4 F m)++[.int .u8 (F.getD m 0/16777216),.int .u8 (F.getD m 0/65536%256),.int .u8 (F.getD m 0/256%256),.int .u8 (F.getD m 0%256)]=c_ .u8 (o4 F (m+1))):=dM (by rw[o4,vX];rfl)
         obtain⟨x,hx⟩:=yaa (F.getD m 0)
         rw[←hx]at c1 x0 x1 R
         have bj:u8.ownBlock≠some gk:=fun e=>by have:=rF N.out gk e;exact absurd ab (by omega)
         have a7:D.heap.size≤wr.heap.size:=E.out.size
         have bo:gk<wr.heap.size:=J6 c1
         have br:(0:Int)≤(m:Int):=by omega
         have bq:(m:Int)<8:=by omega
         have aX:IntKind.u8.wrap (x/16777216)=x/16777216:=by rw[iz];omega
         have aY:IntKind.u8.wrap (x/65536)=x/65536%256:=iz _
         have aZ:IntKind.u8.wrap (x/256)=x/256%256:=iz _
         have a6:IntKind.u8.wrap x=x%256:=iz _
         clear G B hx
         go_wp2_with fail
         go_region_held3(fun W=>W.cell? ⟨gk,m,none⟩=some (.int .u32 x))
          (first
           |go_keep
           |(rw[ap.cell_far _ (by simp;omega) (mS bj)];assumption))
          ((refine fX _ (by rfl) _ _ _ (by rfl) D.heap.size 5 i0 _ 1 1 ee ao aj ai ah rfl (by omega) u8 (4*m) (c_ .u8 (o4 F m)) (by rfl) ((N.out.alloc _).drew) ⟨wr.heap.size,0,none⟩ 4 4 [.int .u8 (x/16777216),.int .u8 (x/65536%256),.int .u8 (x/256%256),.int .u8 (x%256)] (by rfl) (by rfl) (eU (cs:= #[.int .u8 (x/16777216),.int .u8 (x/65536%256),.int .u8 (x/256%256),.int .u8 (x%256)]) (t:=5) (fr:=(0,0)) (eC wr _)) (by simp[Value.oneCell']) (by omega) (by unfold maxLen;omega) (by omega) (by simp;omega) (wr.heap.size+1) (by simp) ?_;intro gg I ag aF ap bh bd))
         have aJ:(wr.alloc (.cells #[.int .u8 (x/16777216),.int .u8 (x/65536%256),.int .u8 (x/256%256),.int .u8 (x%256)] 5)).drew.grownBy ag u8.ownBlock:=ap
         have O:Hid (ag.ownsRow D.heap.size 5 1 (.slice (some ⟨gg,0,none⟩) (4*m+4) I) (4*(m+1)) (c_ .u8 (o4 F (m+1)))∧Below D.heap.size D ag):=dM ⟨by rw[←R.out];exact aF,(E.out.alloc a7 _).drew.grown aJ (by simp;omega) (rF N.out)⟩
         clear aX aY aZ a6 aF ap aJ bh bd
         go_wp2_with fail
         go_roundw
         case rel=>exact⟨m+1,by omega,by go_num,O.out.1,O.out.2⟩
         case measure=>simp[intOf];omega
        ·obtain rfl:m=8:=by omega
         obtain⟨A2,c2,rfl,_,aH⟩:=G9 G (J5 F 8)
         have aM:=rr A2 (o4 F 8) (4*8) c2 wr (J5 F 8) aH
         rw[←aW.out]at aM
         have bm:Hid (Below w.heap.size w wr):=yab az B
         clear G B N E aH
         rw[show 4*8=32 from rfl]at aM⊢
         go_wp2_with fail
         go_ret
         exact⟨rfl,bm.out⟩
def nB (K:List Int) (c:Int):List Int:=K.map fun x=>bits .xor .u8 x c
theorem qA (K:List Int) (c:Int): ∀j,j≤K.length→n7 K c j=nB (K.take j) c++K.drop j
 |0,_=>rfl
 |j+1,h=>by
  have D:=qA K c j (by omega)
  have B:K.drop j=K.getD j 0::K.drop (j+1):=by
   rw[eD (by omega:j<K.length)]
   simp[List.getD,show j<K.length by omega]
  have q:(nB (K.take j) c).length=j:=by rw[nB,iy,ep];omega
  have F:(nB (K.take j) c++K.drop j).getD j 0=K.getD j 0:=by
   rw[B,dR,ez (by rw[q];omega),q,hZ];rfl
  have E:K.getD j 0=K[j]:=by rw[dR,dZ (by omega:j<K.length)];rfl
  rw[n7,D,F,ir _ _ (by rw[q];omega),q,hZ,B,j8,dZ (by omega:j<K.length),lV,←E]
  simp only[nB,gl,gZ,mD,gt,fw,ff,fs]
theorem tn (K:List Int) (c:Int) (h:K.length=64):n7 K c 64=nB K c:=by
 rw[qA K c 64 (by omega),eo (by omega),fo (by omega),fM]
def qu (key:List Int):List Int:=if 64<key.length then pq key else key
theorem C2 (q:List Int) (i:Nat) (hi:i<64):(oT q).getD i 0=if i<(qu q).length then(qu q).getD i 0 else 0:=by
 have B:oT q=splice (List.replicate 64 0) 0 (qu q):=by
  unfold oT qu;split<;>rfl
 have D:(qu q).length≤64:=by
  unfold qu;split
  ·rw[ww];omega
  ·omega
 rw[B]
 simp only[splice,jG,fs,eL,dR]
 by_cases h:i<(qu q).length
 ·rw[dP h,fP h]
 ·rw[dN h,ez (by omega),jo,jd]
  split<;>rfl
theorem J4 (K:List Int) (c:Int):Bytes (nB K c):= .of_mem fun x q=>by
 obtain⟨y,_,rfl⟩:=jN.1 q
 exact zr _ _ _
theorem JV (K:List Int) (c:Int) (i:Nat) (h:i<K.length):c_ .u8 (nB (K.take i) c)++[.int .u8 (bits .xor .u8 (K.getD i 0) c)]=c_ .u8 (nB (K.take (i+1)) c):=by
 have q:K.getD i 0=K[i]:=by rw[dR,dZ h];rfl
 rw[j8,dZ h,lV,←q]
 simp only[c_,nB,gl,gZ,mD]
theorem JC {B k:Nat} {v5 I E G:Value} {q wr F D:World} {M L:Obj} {X5 X6 W V:List Value} (h5:wr.ownsRow B 5 1 v5 k X5) (R:wr.ownsRow B 5 1 I k X6) (Z:v5.ownBlock≠I.ownBlock) (O:Below q.heap.size q wr) (hB:B=q.heap.size)
  (a5:F.ownsRow B 5 1 E (k+1) W) (g5:(wr.alloc M).grownBy F v5.ownBlock) (ad:E.ownBlock=v5.ownBlock∨E.ownBlock=some (wr.alloc M).heap.size)
  (a6:D.ownsRow B 5 1 G (k+1) V) (U:(F.alloc L).grownBy D I.ownBlock) (ab:G.ownBlock=I.ownBlock∨G.ownBlock=some (F.alloc L).heap.size):
  D.ownsRow B 5 1 E (k+1) W∧D.ownsRow B 5 1 G (k+1) V∧E.ownBlock≠G.ownBlock∧Below q.heap.size q D:=by
 subst hB
 have Y:=O.size
 have N:E.ownBlock≠I.ownBlock:=fun e=>by
  rcases ad with h|h
  ·exact Z (h.symm.trans e)
  ·have:=(R.lt _ (e.symm.trans h)).2
   simp at this;omega
 have Q:Below q.heap.size q F:=(O.alloc Y _).grown g5 (by simp;omega) (rF h5)
 have X:=Q.size
 have aa:Below q.heap.size q D:=(Q.alloc X _).grown U (by simp;omega) (rF R)
 refine⟨(a5.alloc L).kept U (Or.inr N),a6,fun e=> ?_,aa⟩
 rcases ab with h|h
 ·exact N (e.trans h)
 ·have:=(a5.lt _ (e.trans h)).2
  simp at this;omega
theorem z7 (D:List Int):(oH D).size=D.length:=by simp[oH,ByteArray.size]
theorem J9 (a b:ByteArray) (w:World) (h:a.size+b.size≤9223372036854775807):(Op.stringOp .add a b).run prog w= .ok (.string (a++b)) w:=by
 rw[run_string_add_sum w _ _ (by omega)]
theorem Mm (F s:ByteArray) (O:ByteArray) (w:World) (bv:O.size≤64) (hs:s.size≤20000) (bl:a_ O=qu (a_ F)) (br:(64<F.size∧ ∀W,Calls prog 74 #[.string F] W fun e w'=>e= .returned (.string O)∧Below W.heap.size W w')∨(¬64<F.size∧O=F)) (bu:F.size≤9223372036854775807):
  Calls prog 43 #[.string F,.string s] w fun e w'=>e= .returned (.string (oH (nA (a_ F) (a_ s))))∧Below w.heap.size w w':=by
 obtain⟨i0,ax,aw,av,au⟩:=gw C_
 have bi:Hid (∀i,i<64→(oT (a_ F)).getD i 0=if i<O.size then(a_ O).getD i 0 else 0):=dM fun i hi=>by rw[C2 _ i hi,←bl,j_]
 have aM:=MH (a_ F)
 have aV:Hid (nA (a_ F) (a_ s)=pq (nB (oT (a_ F)) 92++pq (nB (oT (a_ F)) 54++a_ s))):=dM (by rw[nA,tn _ _ aM,tn _ _ aM])
 obtain⟨M,hM⟩:=yaa (nA (a_ F) (a_ s))
 rw[←hM]at aV⊢
 obtain⟨K,hK⟩:=yaa (oT (a_ F))
 rw[←hK]at bi aV aM
 have ah:=dM aM
 clear hM hK aM bl
 have aW:Hid (∀q:World,Below w.heap.size w q→ ∃B,B=q.heap.size∧((q.alloc (.cells #[] 5)).alloc (.cells #[] 5)).ownsRow B 5 1 (.slice (some ⟨q.heap.size,0,none⟩) 0 0) 0 []∧((q.alloc (.cells #[] 5)).alloc (.cells #[] 5)).ownsRow B 5 1 (.slice (some ⟨q.heap.size+1,0,none⟩) 0 0) 0 []):=dM fun q _=>by
  refine⟨_,rfl,(iL q #[] 0 (dQ _) (by unfold maxLen;omega) rfl).alloc _,?_⟩
  have:=iL (base:=q.heap.size) (q.alloc (.cells #[] 5)) #[] (e:=5) (size:=1) 0 (by simp) (by unfold maxLen;omega) rfl
  simpa using this
 rcases br with⟨hb,bk⟩|⟨hb,rfl⟩
 ·have bt:=dM bk
  clear bk
  go_enter func43,ntmps43
  go_wp2_with(go_at_call 74;refine(bt.out _).mono ?_;rintro e q ⟨rfl,bm⟩;have aJ:=dM bm;clear bm)
  obtain⟨B,aR,ab,aa⟩:=aW.out q aJ.out
  have HO:=dM (And.intro ab aa)
  have aI:=dM aR
  clear ab aa aR aW
  go_loopw[5,6,7] (fun v5 v6 i wq=> ∃k:Nat,k≤64∧i= .int .i64 k∧wq.ownsRow B 5 1 v5 k (c_ .u8 (nB (K.take k) 54))∧wq.ownsRow B 5 1 v6 k (c_ .u8 (nB (K.take k) 92))∧v5.ownBlock≠v6.ownBlock∧Below q.heap.size q wq) (fun _ _ i _=>64-(intOf i).toNat)
  case atStart=>exact⟨0,by omega,rfl,HO.out.1,HO.out.2,by simp[Value.ownBlock],(nO q _).trans ((nO _ _).mono (by simp))⟩
  case round=>
   clear HO
   obtain⟨k,hk,rfl,ab,aa,aL,az⟩:=hrel
   have V:=dM ab
   have U:=dM aa
   have ag:=dM aL
   have ar:=dM az
   have bs:B≤wr.heap.size:=by rw[aI.out];exact az.size
   clear ab aa aL az
   by_cases ay:k<64
   ·have HX:=bi.out k ay
    have ap:=dM (JV K 54 k (by rw[ah.out];exact ay))
    have ao:=dM (JV K 92 k (by rw[ah.out];exact ay))
    obtain⟨x,hx⟩:=yaa (K.getD k 0)
    rw[←hx]at HX ap ao
    obtain⟨y5,R⟩: ∃y,y=bits .xor .u8 x 54:=⟨_,rfl⟩
    obtain⟨y6,Q⟩: ∃y,y=bits .xor .u8 x 92:=⟨_,rfl⟩
    have HY:=dM (And.intro R Q)
    rw[←R]at ap
    rw[←Q]at ao
    have bn:True:=trivial
    by_cases aP:k<O.size
    ·have G:(O[k].toNat:Int)=x:=by rw[HX,dP aP,KZ]
     have a7:bits .xor .u8 (O[k].toNat:Int) 54=y5:=by rw[G];exact R.symm
     have aZ:bits .xor .u8 (O[k].toNat:Int) 92=y6:=by rw[G];exact Q.symm
     clear HX hx R Q G
     go_wp2_with(first
      |(at_builtin;refine ic _ rfl (.tmp 27) (.tmp 30) 46 rfl B 5 i0 (.int .u8 0) 1 1 ee ax aw av au rfl (by decide) _ k _ rfl (V.out.alloc _) ⟨wr.heap.size,0,none⟩ 1 1 [.int .u8 y5] rfl rfl (fR _ _ _) (by intro u I;rw[eh.1 I];rfl) (by unfold maxLen;omega) (by omega) (by simp;omega) ?_;intro aY X Z E _ af;have N:=dM (And.intro Z (And.intro E af));have bg:B≤X.heap.size:=dV (by simp;omega) E.size;have aK:=dM ((U.out.alloc _).kept E (Or.inr (mS ag.out)));clear Z E af;try go_frame)
      |(at_builtin;refine ic _ rfl (.tmp 32) (.tmp 35) 46 rfl B 5 i0 (.int .u8 0) 1 1 ee ax aw av au rfl (by decide) _ k _ rfl (aK.out.alloc _) ⟨X.heap.size,0,none⟩ 1 1 [.int .u8 y6] rfl rfl (fR _ _ _) (by intro u I;rw[eh.1 I];rfl) (by unfold maxLen;omega) (by omega) (by simp;omega) ?_;intro aX w3 Y ad _ ae;have L:=dM (And.intro Y (And.intro ad ae));clear Y ad ae;try go_frame))
     have a5:=N.out.1
     have a6:=L.out.1
     rw[ap.out]at a5
     rw[ao.out]at a6
     have aG:=dM (JC V.out U.out ag.out ar.out aI.out a5 N.out.2.1 N.out.2.2 a6 L.out.2.1 L.out.2.2)
     exact⟨⟨k+1,by omega,by go_num,aG.out⟩,by simp[intOf];omega⟩
    ·have G:x=0:=by rw[HX,dN aP]
     have a7:bits .xor .u8 0 54=y5:=by rw[R,G]
     have aZ:bits .xor .u8 0 92=y6:=by rw[Q,G]
     clear HX hx R Q G
     go_wp2_with(first
      |(at_builtin;refine ic _ rfl (.tmp 27) (.tmp 30) 46 rfl B 5 i0 (.int .u8 0) 1 1 ee ax aw av au rfl (by decide) _ k _ rfl (V.out.alloc _) ⟨wr.heap.size,0,none⟩ 1 1 [.int .u8 y5] rfl rfl (fR _ _ _) (by intro u I;rw[eh.1 I];rfl) (by unfold maxLen;omega) (by omega) (by simp;omega) ?_;intro aY X Z E _ af;have N:=dM (And.intro Z (And.intro E af));have bg:B≤X.heap.size:=dV (by simp;omega) E.size;have aK:=dM ((U.out.alloc _).kept E (Or.inr (mS ag.out)));clear Z E af;try go_frame)
      |(at_builtin;refine ic _ rfl (.tmp 32) (.tmp 35) 46 rfl B 5 i0 (.int .u8 0) 1 1 ee ax aw av au rfl (by decide) _ k _ rfl (aK.out.alloc _) ⟨X.heap.size,0,none⟩ 1 1 [.int .u8 y6] rfl rfl (fR _ _ _) (by intro u I;rw[eh.1 I];rfl) (by unfold maxLen;omega) (by omega) (by simp;omega) ?_;intro aX w3 Y ad _ ae;have L:=dM (And.intro Y (And.intro ad ae));clear Y ad ae;try go_frame))
     have a5:=N.out.1
     have a6:=L.out.1
     rw[ap.out]at a5
     rw[ao.out]at a6
     have aG:=dM (JC V.out U.out ag.out ar.out aI.out a5 N.out.2.1 N.out.2.2 a6 L.out.2.1 L.out.2.2)
     exact⟨⟨k+1,by omega,by go_num,aG.out⟩,by simp[intOf];omega⟩
   ·obtain rfl:k=64:=by omega
    have aj:(nB K 54).length=64:=by rw[nB,iy,ah.out]
    have ai:(nB K 92).length=64:=by rw[nB,iy,ah.out]
    have h5:=V.out
    have h6:=U.out
    rw[eo (by rw[ah.out];exact dQ _)]at h5 h6
    obtain⟨A5,c5,rfl,_,aO⟩:=G9 h5 aj
    obtain⟨A6,c6,rfl,_,aN⟩:=G9 h6 ai
    rw[show((64:Nat):Int)=64 from rfl]
    have aT:=dM (fun(W:World) (hW:Below wr.heap.size wr W)=>rr A5 (nB K 54) 64 c5 W aj (aO.below hW))
    have aH:=dM (fun(W:World) (hW:Below wr.heap.size wr W)=>rr A6 (nB K 92) 64 c6 W ai (aN.below hW))
    obtain⟨S5,aE⟩: ∃S,S=oH (nB K 54):=⟨_,rfl⟩
    obtain⟨S6,aD⟩: ∃S,S=oH (nB K 92):=⟨_,rfl⟩
    rw[←aE]at aT
    rw[←aD]at aH
    obtain⟨T5,am⟩: ∃S,S5++s=S:=⟨_,rfl⟩
    have aC:a_ T5=nB K 54++a_ s:=by rw[←am,Ix,aE,D2 (J4 _ _)]
    have bf:T5.size=64+s.size:=by rw[←j_,aC,dS,aj,j_]
    have aS:=dM (fun(W:World)=>Ir T5 W (by omega))
    obtain⟨D1,aF⟩: ∃D,D=oH (pq (a_ T5)):=⟨_,rfl⟩
    rw[←aF]at aS
    obtain⟨T6,ak⟩: ∃S,S6++D1=S:=⟨_,rfl⟩
    have aB:a_ T6=nB K 92++pq (nB K 54++a_ s):=by rw[←ak,Ix,aD,D2 (J4 _ _),aF,D2 (BU _),aC]
    have bd:T6.size=96:=by rw[←j_,aB,dS,ai,ww]
    have bh:Hid (∀W:World,Calls prog 74 #[.string T6] W fun e w'=>e= .returned (.string (oH M))∧Below W.heap.size W w'):=dM fun W=>by
     have:=Ir T6 W (by omega)
     rw[aB,←aV.out]at this
     exact this
    have ba:S5.size+s.size≤9223372036854775807:=by rw[←gL,am];omega
    have a8:S6.size+D1.size≤9223372036854775807:=by rw[←gL,ak];omega
    have bc:=fun(W:World)=>J9 S5 s W ba
    have bb:=fun(W:World)=>J9 S6 D1 W a8
    rw[am]at bc
    rw[ak]at bb
    have bq:=aT.out wr.drew ((dU _ _).drew)
    have bp:=aH.out wr.drew ((dU _ _).drew)
    have aq:=dM (aJ.out.trans (ar.out.mono aJ.out.size))
    clear am ak aj ai h5 h6 aO aN aE aD aC bf aF aB bd V U ag ar
    go_wp2_with fail
    go_region_law(first
     |(go_simp;go_at_call 74;((with_reducible refine(aS.out _).mono ?_);rintro e w8 ⟨rfl,aA⟩;have aU:=dM aA;have bo:=aH.out w8 (((dU _ _).drew).trans aA);clear aA))
     |(go_simp;go_at_call 74;((with_reducible refine(bh.out _).mono ?_);rintro e w9 ⟨rfl,aQ⟩;have bj:=dM aQ;clear aQ)))
    all_goals
     go_wp2_with fail
     go_ret
     exact⟨rfl,(aq.out.drew.trans (aU.out.mono aq.out.drew.size)).trans (bj.out.mono (aq.out.drew.trans (aU.out.mono aq.out.drew.size)).size)⟩
 ·obtain⟨q,rfl⟩:=yaa w
  have aJ:Hid (Below q.heap.size q q):=dM (dU _ _)
  go_enter func43,ntmps43
  go_wp2_with fail
  obtain⟨B,aR,ab,aa⟩:=aW.out q aJ.out
  have HO:=dM (And.intro ab aa)
  have aI:=dM aR
  clear ab aa aR aW
  go_loopw[5,6,7] (fun v5 v6 i wq=> ∃k:Nat,k≤64∧i= .int .i64 k∧wq.ownsRow B 5 1 v5 k (c_ .u8 (nB (K.take k) 54))∧wq.ownsRow B 5 1 v6 k (c_ .u8 (nB (K.take k) 92))∧v5.ownBlock≠v6.ownBlock∧Below q.heap.size q wq) (fun _ _ i _=>64-(intOf i).toNat)
  case atStart=>exact⟨0,by omega,rfl,HO.out.1,HO.out.2,by simp[Value.ownBlock],(nO q _).trans ((nO _ _).mono (by simp))⟩
  case round=>
   clear HO
   obtain⟨k,hk,rfl,ab,aa,aL,az⟩:=hrel
   have V:=dM ab
   have U:=dM aa
   have ag:=dM aL
   have ar:=dM az
   have bs:B≤wr.heap.size:=by rw[aI.out];exact az.size
   clear ab aa aL az
   by_cases ay:k<64
   ·have HX:=bi.out k ay
    have ap:=dM (JV K 54 k (by rw[ah.out];exact ay))
    have ao:=dM (JV K 92 k (by rw[ah.out];exact ay))
    obtain⟨x,hx⟩:=yaa (K.getD k 0)
    rw[←hx]at HX ap ao
    obtain⟨y5,R⟩: ∃y,y=bits .xor .u8 x 54:=⟨_,rfl⟩
    obtain⟨y6,Q⟩: ∃y,y=bits .xor .u8 x 92:=⟨_,rfl⟩
    have HY:=dM (And.intro R Q)
    rw[←R]at ap
    rw[←Q]at ao
    have bn:True:=trivial
    by_cases aP:k<O.size
    ·have G:(O[k].toNat:Int)=x:=by rw[HX,dP aP,KZ]
     have a7:bits .xor .u8 (O[k].toNat:Int) 54=y5:=by rw[G];exact R.symm
     have aZ:bits .xor .u8 (O[k].toNat:Int) 92=y6:=by rw[G];exact Q.symm
     clear HX hx R Q G
     go_wp2_with(first
      |(at_builtin;refine ic _ rfl (.tmp 27) (.tmp 30) 46 rfl B 5 i0 (.int .u8 0) 1 1 ee ax aw av au rfl (by decide) _ k _ rfl (V.out.alloc _) ⟨wr.heap.size,0,none⟩ 1 1 [.int .u8 y5] rfl rfl (fR _ _ _) (by intro u I;rw[eh.1 I];rfl) (by unfold maxLen;omega) (by omega) (by simp;omega) ?_;intro aY X Z E _ af;have N:=dM (And.intro Z (And.intro E af));have bg:B≤X.heap.size:=dV (by simp;omega) E.size;have aK:=dM ((U.out.alloc _).kept E (Or.inr (mS ag.out)));clear Z E af;try go_frame)
      |(at_builtin;refine ic _ rfl (.tmp 32) (.tmp 35) 46 rfl B 5 i0 (.int .u8 0) 1 1 ee ax aw av au rfl (by decide) _ k _ rfl (aK.out.alloc _) ⟨X.heap.size,0,none⟩ 1 1 [.int .u8 y6] rfl rfl (fR _ _ _) (by intro u I;rw[eh.1 I];rfl) (by unfold maxLen;omega) (by omega) (by simp;omega) ?_;intro aX w3 Y ad _ ae;have L:=dM (And.intro Y (And.intro ad ae));clear Y ad ae;try go_frame))
     have a5:=N.out.1
     have a6:=L.out.1
     rw[ap.out]at a5
     rw[ao.out]at a6
     have aG:=dM (JC V.out U.out ag.out ar.out aI.out a5 N.out.2.1 N.out.2.2 a6 L.out.2.1 L.out.2.2)
     exact⟨⟨k+1,by omega,by go_num,aG.out⟩,by simp[intOf];omega⟩
    ·have G:x=0:=by rw[HX,dN aP]
     have a7:bits .xor .u8 0 54=y5:=by rw[R,G]
     have aZ:bits .xor .u8 0 92=y6:=by rw[Q,G]
     clear HX hx R Q G
     go_wp2_with(first
      |(at_builtin;refine ic _ rfl (.tmp 27) (.tmp 30) 46 rfl B 5 i0 (.int .u8 0) 1 1 ee ax aw av au rfl (by decide) _ k _ rfl (V.out.alloc _) ⟨wr.heap.size,0,none⟩ 1 1 [.int .u8 y5] rfl rfl (fR _ _ _) (by intro u I;rw[eh.1 I];rfl) (by unfold maxLen;omega) (by omega) (by simp;omega) ?_;intro aY X Z E _ af;have N:=dM (And.intro Z (And.intro E af));have bg:B≤X.heap.size:=dV (by simp;omega) E.size;have aK:=dM ((U.out.alloc _).kept E (Or.inr (mS ag.out)));clear Z E af;try go_frame)
      |(at_builtin;refine ic _ rfl (.tmp 32) (.tmp 35) 46 rfl B 5 i0 (.int .u8 0) 1 1 ee ax aw av au rfl (by decide) _ k _ rfl (aK.out.alloc _) ⟨X.heap.size,0,none⟩ 1 1 [.int .u8 y6] rfl rfl (fR _ _ _) (by intro u I;rw[eh.1 I];rfl) (by unfold maxLen;omega) (by omega) (by simp;omega) ?_;intro aX w3 Y ad _ ae;have L:=dM (And.intro Y (And.intro ad ae));clear Y ad ae;try go_frame))
     have a5:=N.out.1
     have a6:=L.out.1
     rw[ap.out]at a5
     rw[ao.out]at a6
     have aG:=dM (JC V.out U.out ag.out ar.out aI.out a5 N.out.2.1 N.out.2.2 a6 L.out.2.1 L.out.2.2)
     exact⟨⟨k+1,by omega,by go_num,aG.out⟩,by simp[intOf];omega⟩
   ·obtain rfl:k=64:=by omega
    have aj:(nB K 54).length=64:=by rw[nB,iy,ah.out]
    have ai:(nB K 92).length=64:=by rw[nB,iy,ah.out]
    have h5:=V.out
    have h6:=U.out
    rw[eo (by rw[ah.out];exact dQ _)]at h5 h6
    obtain⟨A5,c5,rfl,_,aO⟩:=G9 h5 aj
    obtain⟨A6,c6,rfl,_,aN⟩:=G9 h6 ai
    rw[show((64:Nat):Int)=64 from rfl]
    have aT:=dM (fun(W:World) (hW:Below wr.heap.size wr W)=>rr A5 (nB K 54) 64 c5 W aj (aO.below hW))
    have aH:=dM (fun(W:World) (hW:Below wr.heap.size wr W)=>rr A6 (nB K 92) 64 c6 W ai (aN.below hW))
    obtain⟨S5,aE⟩: ∃S,S=oH (nB K 54):=⟨_,rfl⟩
    obtain⟨S6,aD⟩: ∃S,S=oH (nB K 92):=⟨_,rfl⟩
    rw[←aE]at aT
    rw[←aD]at aH
    obtain⟨T5,am⟩: ∃S,S5++s=S:=⟨_,rfl⟩
    have aC:a_ T5=nB K 54++a_ s:=by rw[←am,Ix,aE,D2 (J4 _ _)]
    have bf:T5.size=64+s.size:=by rw[←j_,aC,dS,aj,j_]
    have aS:=dM (fun(W:World)=>Ir T5 W (by omega))
    obtain⟨D1,aF⟩: ∃D,D=oH (pq (a_ T5)):=⟨_,rfl⟩
    rw[←aF]at aS
    obtain⟨T6,ak⟩: ∃S,S6++D1=S:=⟨_,rfl⟩
    have aB:a_ T6=nB K 92++pq (nB K 54++a_ s):=by rw[←ak,Ix,aD,D2 (J4 _ _),aF,D2 (BU _),aC]
    have bd:T6.size=96:=by rw[←j_,aB,dS,ai,ww]
    have bh:Hid (∀W:World,Calls prog 74 #[.string T6] W fun e w'=>e= .returned (.string (oH M))∧Below W.heap.size W w'):=dM fun W=>by
     have:=Ir T6 W (by omega)
     rw[aB,←aV.out]at this
     exact this
    have ba:S5.size+s.size≤9223372036854775807:=by rw[←gL,am];omega
    have a8:S6.size+D1.size≤9223372036854775807:=by rw[←gL,ak];omega
    have bc:=fun(W:World)=>J9 S5 s W ba
    have bb:=fun(W:World)=>J9 S6 D1 W a8
    rw[am]at bc
    rw[ak]at bb
    have bq:=aT.out wr.drew ((dU _ _).drew)
    have bp:=aH.out wr.drew ((dU _ _).drew)
    have aq:=dM (aJ.out.trans (ar.out.mono aJ.out.size))
    clear am ak aj ai h5 h6 aO aN aE aD aC bf aF aB bd V U ag ar
    go_wp2_with fail
    go_region_law(first
     |(go_simp;go_at_call 74;((with_reducible refine(aS.out _).mono ?_);rintro e w8 ⟨rfl,aA⟩;have aU:=dM aA;have bo:=aH.out w8 (((dU _ _).drew).trans aA);clear aA))
     |(go_simp;go_at_call 74;((with_reducible refine(bh.out _).mono ?_);rintro e w9 ⟨rfl,aQ⟩;have bj:=dM aQ;clear aQ)))
    all_goals
     go_wp2_with fail
     go_ret
     exact⟨rfl,(aq.out.drew.trans (aU.out.mono aq.out.drew.size)).trans (bj.out.mono (aq.out.drew.trans (aU.out.mono aq.out.drew.size)).size)⟩
theorem Ml (q s:ByteArray) (w:World) (D:q.size≤5000) (B:s.size≤20000):
  Calls prog 43 #[.string q,.string s] w fun e w'=>e= .returned (.string (oH (nA (a_ q) (a_ s))))∧Below w.heap.size w w':=by
 by_cases h:64<q.size
 ·refine Mm q s (oH (pq (a_ q))) w (by rw[z7,ww];omega) B (by rw[D2 (BU _),qu,dP (by rw[j_];exact h)]) (.inl ⟨h,fun W=>Ir q W (by omega)⟩) (by omega)
 ·exact Mm q s q w (by omega) B (by rw[qu,dN (by rw[j_];exact h)]) (.inr ⟨h,rfl⟩) (by omega)
end Go.Proofs.YtceddodfddlncaaGreatDoor
