
import Derived.LaidEql
import Derived.Stop.Asserts
import Derived.RowKitTokens
import Derived.Laws.EntriesVeiled
import Derived.Test.YtceddodfddlncaaGreatDoorJv08
set_option maxRecDepth 100000
set_option maxHeartbeats 16000000
set_option linter.all false
namespace Go.Proofs.YtceddodfddlncaaGreatDoor
open Go Go.RowKit Tryz
def ej:=@World.cell?_alloc_lt
def fh:=@wp_region_held_drew
def gC:=@wpAnyH_done
def iw:=@Nat.le_of_eq
def j4:=@ntmps196
def kx:=@func196
def lh:=@Bool.false_or
def mG:=@ntmps25
def mO:=@func25
theorem xj (k:mV) (w:World) (N:k.2.size≤9223372036854775807):
  Calls prog 25 #[.agg #[.string k.1,.string k.2]] w fun e w'=>e= .returned (.bool (DY k))∧Below w.heap.size w w':=by
 obtain⟨D,q⟩:=k
 obtain⟨b,E⟩:=yaa (oG (a_ D))
 have L:Hid (DY (D,q)=(b&&decide (1≤q.size∧q.size≤128))):=dM (by rw[E];rfl)
 have B:=dM (fun W=>Mq D W)
 rw[←E]at B
 clear E
 rw[L.out]
 cases b with
 |false=>
  go_enter mO,mG
  go_wp2_with(go_at_call 48;(with_reducible refine(B.out _).mono ?_);rintro e w' ⟨rfl,rfl⟩)
  go_ret
  exact⟨rfl,nO _ _⟩
 |true=>
  by_cases h1:q=⟨#[]⟩
  ·subst h1
   go_enter mO,mG
   go_wp2_with(go_at_call 48;(with_reducible refine(B.out _).mono ?_);rintro e w' ⟨rfl,rfl⟩)
   go_ret
   exact⟨rfl,nO _ _⟩
  ·obtain⟨Q,O,I⟩:=zW h1
   have M:Hid ((true&&decide (1≤q.size∧q.size≤128))=decide (q.size≤128)):=dM (by
    rw[lq];exact mw.2 ⟨fun h=>h.2,fun h=>⟨I,h⟩⟩)
   rw[M.out]
   by_cases G:q.size≤128
   ·have F:(q.size:Int)≤128:=by omega
    rw[ec G]
    go_enter mO,mG
    go_wp2_with(go_at_call 48;(with_reducible refine(B.out _).mono ?_);rintro e w' ⟨rfl,rfl⟩)
    go_ret
    exact⟨by simp[F],nO _ _⟩
   ·have F: ¬(q.size:Int)≤128:=by omega
    rw[dT G]
    go_enter mO,mG
    go_wp2_with(go_at_call 48;(with_reducible refine(B.out _).mono ?_);rintro e w' ⟨rfl,rfl⟩)
    go_ret
    exact⟨by simp[F],nO _ _⟩
theorem AM (k:mV) (t:ByteArray) (B:Nat) (w:World) (q:w.cell? ⟨B,0,none⟩=some (.string t)):
  Calls prog 56 #[.agg #[.string k.1,.string k.2],.pointer (some ⟨B,0,none⟩)] w fun e w'=>e= .returned (.bool (decide (k.1=t)))∧Below w.heap.size w w':=by
 have D:=nc q
 have F:(w.alloc (.cells #[.string k.1,.string k.2] 41)).cell? ⟨B,0,none⟩=some (.string t):=((nO w _).cell (p:=⟨B,0,none⟩) D).trans q
 have E:=BG k.1 t
 go_enter func56,ntmps56
 go_wp2
 go_ret
 exact⟨by first|rfl|rw[E],nO _ _⟩
theorem uU (ks:List mV) (t:ByteArray) {i:Nat} (h:i<ks.length):s_ (ks.drop i) t=(decide (ks[i].1=t)||s_ (ks.drop (i+1)) t):=by
 rw[eD h];rfl
theorem xV (ks:List mV) (A:Option Addr) (n c:Nat) (t:ByteArray) (B:Nat) (w:World) (R:ks.length=n) (ae:n≤1000000) (O:RingAt w A ks) (I:w.cell? ⟨B,0,none⟩=some (.string t)):
  Calls prog 87 #[.slice A n c,.func (.func 56) #[] #[.pointer (some ⟨B,0,none⟩)]] w fun e w'=> ∃r:Int,e= .returned (.int .i64 r)∧decide (0≤r)=s_ ks t∧Below w.heap.size w w':=by
 have X:=dM R
 have HR:=dM O
 have HC:=dM I
 have ab:=nc I
 have eg: ∀args w,(callFunc 56 args).run prog w= .ok (.enter 56 args) w:=gJ func56 (by kernel_rfl) rfl
 clear R O I
 go_enter func87,ntmps87
 go_wp2
 go_loopw[8] (fun i wr=> ∃k:Nat,k≤n∧i= .int .i64 (k:Int)∧s_ ks t=s_ (ks.drop k) t∧Below w.heap.size w wr) (fun i _=>n-(intOf i).toNat)
 case atStart=>exact⟨0,eN _,rfl,rfl,dU _ _⟩
 case round=>
  obtain⟨k,hk,rfl,N,U⟩:=hrel
  have D:=dM U
  have L:=dM N
  clear U N
  by_cases aa:k<n
  ·have G:k<ks.length:=by rw[X.out];exact aa
   obtain⟨b,o,rfl,_,c0,c1⟩:=(HR.out.below D.out).at G
   have F:=dM (uU ks t G)
   obtain⟨q,Q⟩:=yaa (ks[k])
   rw[←Q]at c0 c1 F
   have Y:=dM (AM q t B wr ((D.out.cell (p:=⟨B,0,none⟩) ab).trans HC.out))
   obtain⟨M,q2⟩:=q
   have af:(0:Int)≤(k:Int):=by omega
   have ad:(k:Int)<(n:Int):=by omega
   obtain⟨E,V⟩:=yaa (decide (M=t))
   rw[show decide ((M,q2).1=t)=E from V.symm]at Y F
   clear Q G V
   go_wp2_with fail
   refine Y.out.mono ?_
   rintro e w1 ⟨rfl,W⟩
   have Z:=yab D W
   clear W
   cases E with
   |true=>
    go_wp2
    go_ret
    exact⟨_,rfl,by rw[L.out,F.out,Bool.true_or];simp,Z.out⟩
   |false=>
    go_wp2
    go_roundw
    case rel=>exact⟨k+1,by omega,by go_num,by rw[L.out,F.out,lh],Z.out⟩
    case measure=>simp[intOf];omega
  ·obtain rfl:k=n:=by omega
   have ad: ¬(k:Int)<(k:Int):=by omega
   go_wp2
   go_ret
   exact⟨_,rfl,by rw[L.out,fB (iw X.out)];rfl,D.out⟩
theorem xY (ks:List mV) (A:Option Addr) (n c:Nat) (t:ByteArray) (w:World) (F:ks.length=n) (N:n≤1000000) (E:RingAt w A ks):
  Calls prog 26 #[.slice A n c,.string t] w fun e w'=>e= .returned (.bool (s_ ks t))∧Below w.heap.size w w':=by
 have L:=dM (fun(W:World) (q:Below w.heap.size w W) (h:W.cell? ⟨w.heap.size,0,none⟩=some (.string t))=>xV ks A n c t w.heap.size W F N (E.below q) h)
 have B:=dM (nO w (.cells #[.string t] 9))
 clear E F
 have I:Calls prog 55 #[.slice A n c,.func (.func 56) #[] #[.pointer (some ⟨w.heap.size,0,none⟩)]] (w.alloc (.cells #[.string t] 9)) fun e w'=>e= .returned (.bool (s_ ks t))∧Below w.heap.size w w':=by
  go_enter func55,ntmps55
  go_wp2_with fail
  refine(L.out _ B.out (by simp)).mono ?_
  rintro e M ⟨r,rfl,G,q⟩
  have O:=dM G
  have D:=yab B q
  clear G q
  go_wp2
  go_ret
  exact⟨by rw[←O.out];rfl,D.out⟩
 have Q:=dM I
 clear I L
 go_enter func26,ntmps26
 go_wp2_with fail
 refine Q.out.mono ?_
 rintro e M ⟨rfl,q⟩
 have D:=dM q
 clear q
 go_wp2
 go_ret
 exact⟨rfl,D.out⟩
def Jl (ks:List mV) (w:World) (e:Ending) (w':World):Prop:=e= .returned (if o9 ks=true then .nilIface else .iface 54 (.int .i64 83))∧Below w.heap.size w w'
theorem yl (ks:List mV) (A:Option Addr) (n c:Nat) (w:World) (Z:ks.length=n) (ar:n≤9223372036854775807) (aq:n≤c) (hk:KeyOk ks) (hr:RingAt w A ks):
  Calls prog 11 #[.slice A n c] w (Jl ks w):=by
 have HN:=dM Z
 by_cases ab:1≤n∧n≤4
 case neg=>
  have F:Hid (o9 ks=false):=dM (tX (by rw[Z];exact ab))
  unfold Jl
  rw[dN (by rw[F.out];decide)]
  by_cases h0:n=0
  ·subst h0
   go_enter func11,ntmps11
   go_wp2
   go_ret
   exact⟨rfl,dU _ _⟩
  ·have e0:((n:Int)==0)=false:=by rw[dY];omega
   have e1:(4:Int)<(n:Int):=by omega
   have e2: ¬(n:Int)=0:=by omega
   go_enter func11,ntmps11
   go_wp2
   go_ret
   exact⟨rfl,dU _ _⟩
 case pos=>
  have F:=dM hr
  have HK:=dM hk
  obtain⟨l1,l2⟩:=ab
  have e0:((n:Int)==0)=false:=by rw[dY];omega
  have e1: ¬(4:Int)<(n:Int):=by omega
  have e2: ¬(n:Int)=0:=by omega
  have d1:decide ((4:Int)<(n:Int))=false:=dT e1
  clear hr hk Z
  go_enter func11,ntmps11
  go_wp2
  go_loopw[16] (fun i wr=> ∃k:Nat,k≤n∧i= .int .i64 (k:Int)∧BJ ks k=true∧Below w.heap.size w wr) (fun i _=>n-(intOf i).toNat)
  case atStart=>exact⟨0,eN _,rfl,rfl,dU _ _⟩
  case round=>
   obtain⟨k,hk,rfl,ae,af⟩:=hrel
   have D:=dM af
   have HF:=dM ae
   clear af ae
   by_cases am:k<n
   ·have I:k<ks.length:=by rw[HN.out];exact am
    obtain⟨b,o,rfl,_,c0,c1⟩:=(F.out.below D.out).at I
    have O:=dM (JZ I)
    have M:=dM (fun h=>tY (ks:=ks) I h)
    have aa:=dM (HK.out.get I)
    obtain⟨q,hq⟩:=yaa (ks[k])
    rw[←hq]at c0 c1 O M aa
    have ai:=dM (fun W=>xj q W aa.out.2)
    have aj:=dM (fun(W:World) (h:Below wr.heap.size wr W)=>xY (ks.take k) (some ⟨b,o,none⟩) k c q.1 W (by rw[ep];omega) (by omega) (((F.out.below D.out).below h).take k))
    obtain⟨E,G⟩:=q
    obtain⟨bb,ag⟩:=yaa (DY (E,G))
    obtain⟨N,ad⟩:=yaa (s_ (ks.take k) E)
    rw[←ag]at ai O M
    rw[show s_ (ks.take k) (E,G).1=N from ad.symm]at aj O M
    have aw:(0:Int)≤(k:Int):=by omega
    have ao:(k:Int)<(n:Int):=by omega
    have av:(k:Int)≤(c:Int):=by omega
    have au:k≤c:=by omega
    have ah:Hid (Below wr.heap.size wr (wr.alloc (.cells #[.string E,.string G] 41)).drew):=dM (nO _ _).drew
    have Y:(wr.alloc (.cells #[.string E,.string G] 41)).cell? ⟨wr.heap.size,0,none⟩=some (.string E):=by simp
    have V:(wr.alloc (.cells #[.string E,.string G] 41)).cell? ⟨wr.heap.size,1,none⟩=some (.string G):=by simp
    clear hq I ag ad aa
    go_wp2_with fail
    refine fh (S:=fun X=>X.cell? ⟨wr.heap.size,0,none⟩=some (.string E)∧X.cell? ⟨wr.heap.size,1,none⟩=some (.string G)) (by kernel_rfl) ⟨Y,V⟩ (fun ap=> ?_)
    refine mZ 0 ?_
    try simp only[k_]
    refine pn 1 (fun K L=> ?_)
    go_simp
    go_at_call 25
    (with_reducible refine(ai.out _).mono ?_)
    rintro e w2 ⟨rfl,B⟩
    have Q:=yab ah B
    have U:=(B.cell (nc Y)).trans Y
    have R:=(B.cell (nc V)).trans V
    clear B
    refine L.out _ _ ⟨U,R⟩ (fun ay=> ?_)
    clear L K ap
    try simp only[k_]
    refine mZ 2 ?_
    try simp only[k_]
    refine mZ 3 ?_
    try simp only[k_]
    cases bb with
    |false=>
     refine Hu 4 ?_
     try simp only[k_]
     refine Hu 5 ?_
     try simp only[k_]
     refine Hu 6 ?_
     try simp only[k_]
     refine Hu 7 ?_
     try simp only[k_]
     refine Hu 8 ?_
     try simp only[k_]
     refine Hu 9 ?_
     try simp only[k_]
     refine mZ 10 ?_
     try simp only[k_]
     refine gC (by kernel_rfl) ?_ _
     have F:Hid (o9 ks=false):=dM (M.out (by simp))
     go_wp2
     go_ret
     exact⟨by rw[dN (by rw[F.out];decide)];rfl,D.out.trans (Q.out.mono D.out.size)⟩
    |true=>
     refine mZ 4 ?_
     try simp only[k_]
     refine mZ 5 ?_
     try simp only[k_]
     refine mZ 6 ?_
     try simp only[k_]
     refine mZ 7 ?_
     try simp only[k_]
     refine mZ 8 ?_
     try simp only[k_]
     refine pn 9 (fun K L=> ?_)
     go_simp
     go_at_call 26
     (with_reducible refine(aj.out _ Q.out).mono ?_)
     rintro e w3 ⟨rfl,B⟩
     have ak:=yab Q B
     refine L.out _ _ ⟨(B.cell (nc U)).trans U,(B.cell (nc R)).trans R⟩ (fun ax=> ?_)
     clear L K B
     try simp only[k_]
     refine mZ 10 ?_
     try simp only[k_]
     refine gC (by kernel_rfl) ?_ _
     cases N with
     |true=>
      have F:Hid (o9 ks=false):=dM (M.out (by simp))
      go_wp2
      go_ret
      exact⟨by rw[dN (by rw[F.out];decide)];rfl,D.out.trans (ak.out.mono D.out.size)⟩
     |false=>
      go_wp2
      go_roundw
      case rel=>exact⟨k+1,by omega,by go_num,by rw[O.out,HF.out];rfl,D.out.trans (ak.out.mono D.out.size)⟩
      case measure=>simp[intOf];omega
   ·obtain rfl:k=n:=by omega
    have ao: ¬(k:Int)<(k:Int):=by omega
    go_wp2
    go_ret
    have:o9 ks=true:=by unfold o9;rw[HN.out,HF.out,ec ⟨l1,l2⟩];rfl
    exact⟨by rw[dP this];rfl,D.out⟩
def UnlAt (w:World) (b:Nat) (no:Int) (found:ByteArray) (q:Nat) (first caps:Array Value):Prop:=
 w.cell? ⟨b+2,0,none⟩=some (.func (.func q) first caps)∧w.cell? ⟨b,0,none⟩=some (.int .i64 no)∧w.cell? ⟨b+1,0,none⟩=some (.string found)
abbrev ny (b:Nat):Value:= .func (.func 61) #[] #[.pointer (some ⟨b+2,0,none⟩),.pointer (some ⟨b,0,none⟩),.pointer (some ⟨b+1,0,none⟩)]
theorem UnlAt.grown {w w':World} {b:Nat} {no:Int} {D:ByteArray} {q:Nat} {first E:Array Value} {row:Option Nat} (h:UnlAt w b no D q first E) (B:w.grownBy w' row) (h0:some b≠row) (h1:some (b+1)≠row) (F:some (b+2)≠row):UnlAt w' b no D q first E:=
 ⟨B.cell h.1 F,B.cell h.2.1 h0,B.cell h.2.2 h1⟩
theorem UnlAt.below {w w':World} {b:Nat} {no:Int} {D:ByteArray} {q:Nat} {first E:Array Value} (h:UnlAt w b no D q first E) (B:Below w.heap.size w w'):UnlAt w' b no D q first E:=
 ⟨(B.cell (nc h.1)).trans h.1,(B.cell (nc h.2.1)).trans h.2.1,(B.cell (nc h.2.2)).trans h.2.2⟩
theorem Lk (no:Int) (B:ByteArray) (q:Nat) (first E:Array Value) (w:World):
  Calls prog 28 #[.int .i64 no,.string B,.func (.func q) first E] w fun e w'=>e= .returned (ny w.heap.size)∧UnlAt w' w.heap.size no B q first E∧w'.heap.size=w.heap.size+3∧Below w.heap.size w w':=by
 have G: ∀(D:Fn) (first F:Array Value) (w:World),(Instr.makeFunc D first F).run prog w= .ok (.func D first F) w:=fun _ _ _ _=>rfl
 go_enter func28,ntmps28
 go_wp2
 go_ret
 refine⟨rfl,⟨?_,?_,?_⟩,?_,?_⟩
 ·simp[World.cell?_alloc_at]
 ·rw[ej _ _ ⟨w.heap.size,0,none⟩ (by simp;omega),ej _ _ ⟨w.heap.size,0,none⟩ (by simp)];simp
 ·rw[ej _ _ ⟨w.heap.size+1,0,none⟩ (by simp)];simp
 ·simp
 ·exact(((dU _ _).alloc (dQ _) _).alloc (by simp) _).alloc (by simp;omega) _
theorem M3 (A:Option Addr) (n c:Nat) (w:World):
  Calls prog 20 #[.slice A n c] w fun e w'=>e= .returned (.func (.func 46) #[] #[.pointer (some ⟨w.heap.size,0,none⟩)])∧w'.cell? ⟨w.heap.size,0,none⟩=some (.slice A n c)∧w'.heap.size=w.heap.size+1∧Below w.heap.size w w':=by
 have D: ∀(q:Fn) (first B:Array Value) (w:World),(Instr.makeFunc q first B).run prog w= .ok (.func q first B) w:=fun _ _ _ _=>rfl
 go_enter func20,ntmps20
 go_wp2
 go_ret
 exact⟨rfl,by simp,by simp,(dU _ _).alloc (dQ _) _⟩
theorem Ah (ks:List mV) (A:Option Addr) (n c p:Nat) (w:World) (N:w.cell? ⟨p,0,none⟩=some (.slice A n c)) (D:ks.length=n) (I:n≤9223372036854775807) (G:n≤c) (E:KeyOk ks) (B:RingAt w A ks):
  Calls prog 46 #[.pointer (some ⟨p,0,none⟩)] w (Jl ks w):=by
 have HC:=dM (yl ks A n c w D I G E B)
 obtain⟨v,q⟩: ∃v:Value,v=(if o9 ks=true then .nilIface else .iface 54 (.int .i64 83)):=⟨_,rfl⟩
 unfold Jl at HC⊢
 rw[←q]at HC⊢
 clear B E D q
 go_enter func46,ntmps46
 go_wp2_with fail
 refine HC.out.mono ?_
 rintro e M ⟨rfl,F⟩
 have L:=dM F
 clear F
 go_wp2
 go_ret
 exact⟨rfl,L.out⟩
theorem AC (s:ByteArray) (p:Nat) (w:World) (B:w.cell? ⟨p,0,none⟩=some (.string s)):
  Calls prog 47 #[.pointer (some ⟨p,0,none⟩)] w fun e w'=>e= .returned (.bool (oG (a_ s)))∧w=w':=by
 have HC:=dM (fun W=>Mq s W)
 obtain⟨b,q⟩:=yaa (oG (a_ s))
 rw[←q]at HC⊢
 clear q
 go_enter func47,ntmps47
 go_wp2_with(go_at_call 48;(with_reducible refine(HC.out _).mono ?_);rintro e w' ⟨rfl,rfl⟩)
 go_ret
 exact⟨rfl,rfl⟩
theorem Mt (s:ByteArray) (p:Nat) (w:World) (q:w.cell? ⟨p,0,none⟩=some (.string s)):
  Calls prog 49 #[.pointer (some ⟨p,0,none⟩)] w fun e w'=>e= .returned (.bool (decide (s.size≤4096)))∧w=w':=by
 by_cases h:s.size≤4096
 ·have h1:(s.size:Int)≤4096:=by omega
  rw[ec h]
  go_enter func49,ntmps49
  go_wp2
  go_ret
  exact⟨by simp[h1],rfl⟩
 ·have h1: ¬(s.size:Int)≤4096:=by omega
  rw[dT h]
  go_enter func49,ntmps49
  go_wp2
  go_ret
  exact⟨by simp[h1],rfl⟩
def qd:ByteArray:=⟨#[97,32,107,105,110,100,32,116,104,97,116,32,105,115,32,110,111,32,110,97,109,101]⟩
def DZ:ByteArray:=⟨#[116,111,111,32,108,111,110,103,32,97,32,116,101,120,116]⟩
theorem M2 (s:ByteArray) (w:World):
  Calls prog 21 #[.string s] w fun e w'=>e= .returned (ny (w.heap.size+1))∧w'.cell? ⟨w.heap.size,0,none⟩=some (.string s)∧UnlAt w' (w.heap.size+1) 1 qd 47 #[] #[.pointer (some ⟨w.heap.size,0,none⟩)]∧w'.heap.size=w.heap.size+4∧Below w.heap.size w w':=by
 have M: ∀(D:Fn) (first E:Array Value) (w:World),(Instr.makeFunc D first E).run prog w= .ok (.func D first E) w:=fun _ _ _ _=>rfl
 have G:=dM (fun(b:Nat) (W:World)=>Lk 1 qd 47 #[] #[.pointer (some ⟨b,0,none⟩)] W)
 go_enter func21,ntmps21
 go_wp2_with fail
 refine(G.out w.heap.size _).mono ?_
 rintro e L ⟨rfl,B,hz,q⟩
 have F:=dM (And.intro B hz)
 have I:=dM q
 clear B hz q
 go_wp2
 go_ret
 have q:=I.out
 have B:=F.out.1
 have hz:=F.out.2
 simp only[World.size_alloc]at q B hz
 exact⟨by simp,(q.cell (p:=⟨w.heap.size,0,none⟩) (Nat.lt_succ_self _)).trans (by simp),B,by omega,(nO w _).trans (q.mono (by omega))⟩
theorem LC (s:ByteArray) (w:World):
  Calls prog 22 #[.string s] w fun e w'=>e= .returned (ny (w.heap.size+1))∧w'.cell? ⟨w.heap.size,0,none⟩=some (.string s)∧UnlAt w' (w.heap.size+1) 2 DZ 49 #[] #[.pointer (some ⟨w.heap.size,0,none⟩)]∧w'.heap.size=w.heap.size+4∧Below w.heap.size w w':=by
 have M: ∀(D:Fn) (first E:Array Value) (w:World),(Instr.makeFunc D first E).run prog w= .ok (.func D first E) w:=fun _ _ _ _=>rfl
 have G:=dM (fun(b:Nat) (W:World)=>Lk 2 DZ 49 #[] #[.pointer (some ⟨b,0,none⟩)] W)
 go_enter func22,ntmps22
 go_wp2_with fail
 refine(G.out w.heap.size _).mono ?_
 rintro e L ⟨rfl,B,hz,q⟩
 have F:=dM (And.intro B hz)
 have I:=dM q
 clear B hz q
 go_wp2
 go_ret
 have q:=I.out
 have B:=F.out.1
 have hz:=F.out.2
 simp only[World.size_alloc]at q B hz
 exact⟨by simp,(q.cell (p:=⟨w.heap.size,0,none⟩) (Nat.lt_succ_self _)).trans (by simp),B,by omega,(nO w _).trans (q.mono (by omega))⟩
def FV (pos n:Int) (w:World) (v:Value) (w':World):Prop:=
 ∃b,v= .iface 188 (.pointer (some ⟨b,0,none⟩))∧w'.cell? ⟨b,0,none⟩=some (.int .i64 pos)∧w'.cell? ⟨b,0+1,none⟩=some (.iface 54 (.int .i64 n))∧Below w.heap.size w w'
def KI (pos:Int) (w:World) (e:Ending) (w':World):Prop:= ∃v,e= .returned (.tuple #[.int .i64 0,v])∧FV pos 40 w v w'
def rA (l:List Int) (least most:Int) (w:World) (e:Ending) (w':World):Prop:=
 (oh l=false∧KI (np l:Int) w e w')∨
 (oh l=true∧oj l least most=false∧e= .returned (.tuple #[.int .i64 0,.iface 54 (.int .i64 41)])∧Below w.heap.size w w')∨
 (oh l=true∧oj l least most=true∧e= .returned (.tuple #[.int .i64 (oP l),.nilIface])∧Below w.heap.size w w')
theorem AX {s:ByteArray} (h:oh (a_ s)=true):AllD (a_ (pd s)):=by
 rw[tZ]
 unfold pw
 rcases Iv h with⟨B,q,_⟩|⟨B,q,_⟩
 ·rw[ec B,dP rfl];exact q
 ·rw[dT B,dN (by decide)];exact q
theorem ri (s:ByteArray):oh (a_ s)=true↔np (a_ s)≠0∧ ¬np (a_ s)<s.size:=by
 unfold oh
 rw[eb,←j_]
 have:=Fw (a_ s)
 constructor
 ·rintro⟨h1,q⟩
  have:=jf.2 h1
  omega
 ·rintro⟨h1,q⟩
  exact⟨fun e=>by rw[e]at h1;exact h1 rfl,by omega⟩
theorem ED (s:ByteArray) (Q O:Int) (w:World) (R:s.size≤9223372036854775806) (G:oh (a_ s)=false):
  Calls prog 196 #[.string s,.int .i64 Q,.int .i64 O] w (KI (np (a_ s):Int) w):=by
 have E:=dM (KO s w R)
 have M:=Fw (a_ s)
 rw[j_]at M
 have F:np (a_ s)=0∨np (a_ s)<s.size:=by
  by_cases h:np (a_ s)=0
  ·exact .inl h
  ·by_cases N:np (a_ s)<s.size
   ·exact .inr N
   ·rw[(ri s).2 ⟨h,N⟩]at G;cases G
 obtain⟨p,L⟩:=yaa (np (a_ s))
 rw[←L]at E F M⊢
 clear L G
 unfold KI FV
 rcases F with rfl|F
 ·go_enter kx,j4
  go_wp2_with(go_at_call 195;refine E.out.mono ?_;rintro e D ⟨rfl,q⟩;have B:=dM q;clear q)
  go_ret2
  refine⟨_,rfl,D.heap.size,rfl,?_,?_,B.out.alloc B.out.size _⟩
  ·simp
  ·simp
 ·have q:((p:Int)==0)=(p==0):=by rw[iA,gm,gm];omega
  have V:(p:Int)<(s.size:Int):=by omega
  by_cases I:p=0
  ·have U:((p:Int)==0)=true:=by rw[gm];omega
   clear q I
   go_enter kx,j4
   go_wp2_with(go_at_call 195;refine E.out.mono ?_;rintro e D ⟨rfl,q⟩;have B:=dM q;clear q)
   go_ret2
   refine⟨_,rfl,D.heap.size,rfl,?_,?_,B.out.alloc B.out.size _⟩
   ·simp
   ·simp
  ·have U:((p:Int)==0)=false:=by rw[dY];omega
   clear q I
   go_enter kx,j4
   go_wp2_with(go_at_call 195;refine E.out.mono ?_;rintro e D ⟨rfl,q⟩;have B:=dM q;clear q)
   go_ret2
   refine⟨_,rfl,D.heap.size,rfl,?_,?_,B.out.alloc B.out.size _⟩
   ·simp
   ·simp
theorem Cs (s:ByteArray) (I G:Int) (w:World) (X:s.size≤9223372036854775806) (O:oh (a_ s)=true):
  Calls prog 196 #[.string s,.int .i64 I,.int .i64 G] w fun e w'=>
   (oj (a_ s) I G=false∧e= .returned (.tuple #[.int .i64 0,.iface 54 (.int .i64 41)])∧Below w.heap.size w w')∨
   (oj (a_ s) I G=true∧e= .returned (.tuple #[.int .i64 (oP (a_ s)),.nilIface])∧Below w.heap.size w w'):=by
 have N:=dM (KO s w X)
 have B:=dM (fun W:World=>xt s W (by omega) (AX O))
 obtain⟨U,Y⟩:=(ri s).1 O
 have V:=Fw (a_ s)
 rw[j_]at V
 have D:Hid (oj (a_ s) I G=decide (ya s=true∧I≤pV s∧pV s≤G)):=dM (by
  unfold oj ya
  rw[uw]
  refine mw.2 ?_
  rw[eb]
  omega)
 rw[←uw]
 obtain⟨p,Q⟩:=yaa (np (a_ s))
 obtain⟨n,R⟩:=yaa (pV s)
 obtain⟨F,hF⟩:=yaa (oj (a_ s) I G)
 rw[←Q]at N U Y V
 rw[←R]at B D⊢
 rw[←hF]at D⊢
 have aa:((p:Int)==0)=false:=by rw[dY];omega
 have Z: ¬(p:Int)<(s.size:Int):=by omega
 clear Q R hF U O
 cases hfs:ya s with
 |false=>
  rw[hfs]at B D
  have L:Hid (F=false):=dM (by rw[D.out];simp)
  rw[dN (by decide)]at B
  rw[L.out]
  clear hfs
  go_enter kx,j4
  go_wp2_with(first
   |(go_at_call 195;refine N.out.mono ?_;rintro e E ⟨rfl,q⟩;have M:=dM q;clear q)
   |(go_at_call 211;refine(B.out E).mono ?_;rintro e w' ⟨rfl,rfl⟩))
  go_ret2
  exact .inl ⟨trivial,rfl,M.out⟩
 |true=>
  rw[hfs]at B D
  rw[dP rfl]at B
  by_cases h1:n<I
  ·have L:Hid (F=false):=dM (by rw[D.out,fz];omega)
   rw[L.out]
   clear hfs
   go_enter kx,j4
   go_wp2_with(first
    |(go_at_call 195;refine N.out.mono ?_;rintro e E ⟨rfl,q⟩;have M:=dM q;clear q)
    |(go_at_call 211;refine(B.out E).mono ?_;rintro e w' ⟨rfl,rfl⟩))
   go_ret2
   exact .inl ⟨trivial,rfl,M.out⟩
  ·by_cases h2:G<n
   ·have L:Hid (F=false):=dM (by rw[D.out,fz];omega)
    rw[L.out]
    clear hfs
    go_enter kx,j4
    go_wp2_with(first
     |(go_at_call 195;refine N.out.mono ?_;rintro e E ⟨rfl,q⟩;have M:=dM q;clear q)
     |(go_at_call 211;refine(B.out E).mono ?_;rintro e w' ⟨rfl,rfl⟩))
    go_ret2
    exact .inl ⟨trivial,rfl,M.out⟩
   ·have L:Hid (F=true):=dM (by rw[D.out,eb];exact⟨rfl,by omega,by omega⟩)
    rw[L.out]
    clear hfs
    go_enter kx,j4
    go_wp2_with(first
     |(go_at_call 195;refine N.out.mono ?_;rintro e E ⟨rfl,q⟩;have M:=dM q;clear q)
     |(go_at_call 211;refine(B.out E).mono ?_;rintro e w' ⟨rfl,rfl⟩))
    go_ret2
    exact .inr ⟨trivial,rfl,M.out⟩
theorem Ai (s:ByteArray) (B q:Int) (w:World) (E:s.size≤9223372036854775806) (_h0: -9223372036854775808≤B∧B≤9223372036854775807) (_h1: -9223372036854775808≤q∧q≤9223372036854775807):
  Calls prog 196 #[.string s,.int .i64 B,.int .i64 q] w (rA (a_ s) B q w):=by
 cases hf:oh (a_ s)with
 |false=>exact(ED s B q w E hf).mono fun e w' h=> .inl ⟨hf,h⟩
 |true=>
  refine(Cs s B q w E hf).mono fun e w' h=> ?_
  rcases h with⟨h1,D⟩|⟨h1,D⟩
  ·exact .inr (.inl ⟨hf,h1,D⟩)
  ·exact .inr (.inr ⟨hf,h1,D⟩)
end Go.Proofs.YtceddodfddlncaaGreatDoor
